import unittest

from plain import (
    BEAVER_FOUR, BEAVER_THREE, BEAVER_TWO, COUNTS, GOES_RIGHT, STOPS_AT_ONCE, STOPS_AT_ONCE_OF_TWO, SWEEPS, TO_AND_FRO,
    WRITES_LEFT, WRITES_RIGHT, assert_refused, many_tables, plain_walk, spread_shot, spread_table,
)
from tapeproof.errors import NoShot
from tapeproof.machines import Machine, signs_of, states_of
from tapeproof.running import after, after_from, stops_at, trail

FIRST = (0, 0, ())
FAR = 10 ** 50


class After(unittest.TestCase):
    def test_by_hand(self):
        machine = Machine(BEAVER_TWO)
        told = [
            ((0, 0, ()), 0),
            ((1, 1, ((0, 1),)), 1),
            ((0, 0, ((0, 1), (1, 1))), 2),
            ((1, -1, ((0, 1), (1, 1))), 3),
            ((0, -2, ((-1, 1), (0, 1), (1, 1))), 4),
            ((1, -1, ((-2, 1), (-1, 1), (0, 1), (1, 1))), 5),
        ]
        for steps, pair in enumerate(told):
            self.assertEqual(after(machine, steps), pair)
        for steps in (6, 7, 100, 5000):
            self.assertEqual(after(machine, steps), told[-1])

    def test_known_stops(self):
        for table, steps, marks in ((BEAVER_TWO, 5, 4), (BEAVER_THREE, 13, 6), (BEAVER_FOUR, 106, 12)):
            shot, done = after(Machine(table), 5000)
            self.assertEqual(done, steps)
            self.assertEqual(len(shot[2]), marks)

    def test_stops_at_once(self):
        for table in (STOPS_AT_ONCE, STOPS_AT_ONCE_OF_TWO):
            for steps in (-1, 0, 1, 5000):
                self.assertEqual(after(Machine(table), steps), (FIRST, 0))

    def test_against_the_plain_walk(self):
        for table in many_tables():
            machine = Machine(table)
            walked = plain_walk(table, FIRST, 120)
            for steps in list(range(40)) + [119, 120]:
                done = min(steps, len(walked) - 1)
                self.assertEqual(after(machine, steps), (walked[done], done))

    def test_five_thousand_steps(self):
        for table in (GOES_RIGHT, WRITES_RIGHT, WRITES_LEFT, SWEEPS, TO_AND_FRO, COUNTS):
            walked = plain_walk(table, FIRST, 300)
            self.assertEqual(after(Machine(table), 300), (walked[-1], 300))
        self.assertEqual(after(Machine(GOES_RIGHT), 5000), ((0, 5000, ()), 5000))
        self.assertEqual(
            after(Machine(WRITES_RIGHT), 5000), ((0, 5000, tuple((place, 1) for place in range(5000))), 5000)
        )
        self.assertEqual(
            after(Machine(WRITES_LEFT), 5000), ((0, -5000, tuple((place, 2) for place in range(-4999, 1))), 5000)
        )

    def test_steps_below_nought_are_none(self):
        for table in many_tables():
            for steps in (-1, -2, -5000, -FAR):
                self.assertEqual(after(Machine(table), steps), (FIRST, 0))

    def test_a_blank_that_is_written_is_no_mark(self):
        machine = Machine(TO_AND_FRO)
        self.assertEqual(after(machine, 1), ((1, 1, ((0, 1),)), 1))
        self.assertEqual(after(machine, 3), ((1, 1, ()), 3))

    def test_the_kinds(self):
        told = after(Machine(BEAVER_FOUR), 50)
        self.assertIs(type(told), tuple)
        self.assertIs(type(told[0]), tuple)
        self.assertIs(type(told[0][2]), tuple)
        self.assertTrue(all(type(mark) is tuple for mark in told[0][2]))


class AfterFrom(unittest.TestCase):
    def test_from_the_first_shot_is_after(self):
        for table in many_tables():
            machine = Machine(table)
            for steps in (-3, 0, 1, 2, 17, 60):
                self.assertEqual(after_from(machine, FIRST, steps), after(machine, steps))

    def test_against_the_plain_walk(self):
        for seed, table in enumerate(many_tables()):
            machine = Machine(table)
            for about in (0, 1, -1, 40, -40, FAR, -FAR):
                shot = spread_shot(seed, states_of(machine), signs_of(machine), about)
                walked = plain_walk(table, shot, 60)
                for steps in (-FAR, -1, 0, 1, 2, 3, 10, 33, 60):
                    done = min(max(steps, 0), len(walked) - 1)
                    with self.subTest(table=table, shot=shot, steps=steps):
                        self.assertEqual(after_from(machine, shot, steps), (walked[done], done))

    def test_marks_on_one_side_alone_and_at_the_machine(self):
        machine = Machine(SWEEPS)
        for marks in (((5, 1),), ((-5, 1),), ((0, 1),), ((-1, 1), (0, 1)), ((0, 1), (1, 1)), ((-1, 1), (1, 1))):
            for state in (0, 1):
                shot = (state, 0, marks)
                walked = plain_walk(SWEEPS, shot, 50)
                for steps in range(51):
                    self.assertEqual(after_from(machine, shot, steps), (walked[steps], steps))

    def test_far_marks_stay(self):
        machine = Machine(WRITES_RIGHT)
        shot = (0, FAR, ((-FAR, 1), (0, 1), (FAR + 3, 1), (2 * FAR, 1)))
        told = (0, FAR + 3, ((-FAR, 1), (0, 1), (FAR, 1), (FAR + 1, 1), (FAR + 2, 1), (FAR + 3, 1), (2 * FAR, 1)))
        self.assertEqual(after_from(machine, shot, 100), (told, 3))

    def test_in_two_parts_as_in_one(self):
        for table in many_tables():
            machine = Machine(table)
            for first in (0, 1, 7, 30):
                for second in (-1, 0, 1, 11):
                    shot, done = after(machine, first)
                    later, more = after_from(machine, shot, second)
                    self.assertEqual((later, done + more), after(machine, first + max(second, 0)))

    def test_a_stopped_machine_goes_no_further(self):
        machine = Machine(BEAVER_FOUR)
        shot = after(machine, 5000)[0]
        for steps in (-1, 0, 1, 5000):
            self.assertEqual(after_from(machine, shot, steps), (shot, 0))


class RefusedShots(unittest.TestCase):
    def setUp(self):
        self.machine = Machine(spread_table(4, 3, 4))

    def assert_all_refused(self, shots):
        for shot in shots:
            for steps in (-1, 0, 1, 50):
                with self.subTest(shot=shot, steps=steps):
                    assert_refused(self, NoShot, after_from, self.machine, shot, steps)

    def test_what_is_just_right_is_taken(self):
        for state in (0, 2):
            for sign in (1, 3):
                shot = (state, 0, ((-1, sign), (0, sign), (FAR, sign)))
                self.assertEqual(after_from(self.machine, shot, 0), (shot, 0))

    def test_a_wrong_state(self):
        self.assert_all_refused([(state, 0, ()) for state in (-1, -2, 3, 4, FAR, -FAR)])
        self.assert_all_refused([(state, 5, ((1, 2), (5, 1))) for state in (-1, 3)])

    def test_a_wrong_sign(self):
        for sign in (0, -1, 4, 5, FAR, -FAR):
            self.assert_all_refused([
                (0, 0, ((0, sign),)),
                (0, 0, ((FAR, sign),)),
                (1, 0, ((-3, sign), (0, 1), (9, 2))),
                (1, 0, ((-3, 1), (0, sign), (9, 2))),
                (1, 0, ((-3, 1), (0, 2), (9, sign))),
            ])

    def test_places_that_fall_or_come_twice(self):
        self.assert_all_refused([
            (0, 0, ((1, 1), (0, 1))),
            (0, 0, ((0, 1), (0, 1))),
            (0, 0, ((0, 1), (0, 2))),
            (0, 0, ((0, 1), (-1, 1))),
            (0, 0, ((5, 1), (4, 1), (6, 1))),
            (0, 0, ((4, 1), (5, 1), (5, 1))),
            (0, 0, ((4, 1), (6, 1), (5, 1))),
            (0, 9, ((4, 1), (6, 1), (4, 1))),
            (0, 0, ((FAR + 1, 1), (FAR, 1))),
            (0, 0, ((-FAR, 1), (-FAR, 1))),
            (0, 0, ((-FAR, 1), (-FAR - 1, 1))),
        ])

    def test_what_is_another_machines(self):
        shot = (2, 0, ((0, 3),))
        after_from(self.machine, shot, 1)
        assert_refused(self, NoShot, after_from, Machine(spread_table(4, 2, 4)), shot, 1)
        assert_refused(self, NoShot, after_from, Machine(spread_table(4, 3, 3)), shot, 1)


class StopsAt(unittest.TestCase):
    def test_about_the_stop(self):
        for table, steps in ((BEAVER_TWO, 5), (BEAVER_THREE, 13), (BEAVER_FOUR, 106)):
            machine = Machine(table)
            for most in (steps, steps + 1, steps + 2, 5000):
                self.assertEqual(stops_at(machine, most), steps)
            for most in (steps - 1, steps - 2, 1, 0, -1, -steps, -FAR):
                self.assertIsNone(stops_at(machine, most))

    def test_stops_at_once(self):
        for table in (STOPS_AT_ONCE, STOPS_AT_ONCE_OF_TWO):
            for most in (0, 1, 5000):
                told = stops_at(Machine(table), most)
                self.assertEqual(told, 0)
                self.assertIsNotNone(told)
            for most in (-1, -2, -FAR):
                self.assertIsNone(stops_at(Machine(table), most))

    def test_never_stops(self):
        for table in (GOES_RIGHT, WRITES_RIGHT, WRITES_LEFT, SWEEPS, TO_AND_FRO, COUNTS):
            for most in (-1, 0, 1, 5000):
                self.assertIsNone(stops_at(Machine(table), most))

    def test_against_the_plain_walk(self):
        for table in many_tables():
            machine = Machine(table)
            steps = len(plain_walk(table, FIRST, 101)) - 1
            for most in range(-1, 101):
                self.assertEqual(stops_at(machine, most), steps if steps <= most else None)


class Trail(unittest.TestCase):
    def test_by_hand(self):
        self.assertEqual(trail(Machine(BEAVER_TWO), 3), [
            (0, 0, ()),
            (1, 1, ((0, 1),)),
            (0, 0, ((0, 1), (1, 1))),
            (1, -1, ((0, 1), (1, 1))),
        ])

    def test_against_the_plain_walk(self):
        for table in many_tables():
            for steps in (0, 1, 2, 3, 50):
                told = trail(Machine(table), steps)
                self.assertIs(type(told), list)
                self.assertEqual(told, plain_walk(table, FIRST, steps))

    def test_ends_where_the_machine_stops(self):
        for table, done in ((STOPS_AT_ONCE, 0), (BEAVER_TWO, 5), (BEAVER_FOUR, 106)):
            machine = Machine(table)
            for steps in (done, done + 1, 5000):
                told = trail(machine, steps)
                self.assertEqual(len(told), done + 1)
                self.assertEqual(told[0], FIRST)
                self.assertEqual(told[-1], after(machine, 5000)[0])

    def test_no_steps(self):
        for table in many_tables():
            for steps in (0, -1, -2, -FAR):
                self.assertEqual(trail(Machine(table), steps), [FIRST])

    def test_five_thousand_steps(self):
        machine = Machine(WRITES_RIGHT)
        told = trail(machine, 5000)
        self.assertEqual(len(told), 5001)
        for steps in (0, 1, 2500, 4999, 5000):
            self.assertEqual(told[steps], after(machine, steps)[0])


class WhatIsTold(unittest.TestCase):
    def test_a_told_list_is_the_askers_own(self):
        for table in many_tables():
            machine = Machine(table)
            told = trail(machine, 20)
            told[0] = None
            told.append("more")
            told.reverse()
            self.assertEqual(trail(machine, 20), plain_walk(table, FIRST, 20))
            self.assertEqual(after(machine, 0), (FIRST, 0))

    def test_nothing_asked_later_changes_it(self):
        machine = Machine(BEAVER_FOUR)
        shots = trail(machine, 30)
        pair = after(machine, 30)
        trail(machine, 100)
        after(machine, 100)
        after_from(machine, pair[0], 40)
        stops_at(machine, 5000)
        self.assertEqual(shots, plain_walk(BEAVER_FOUR, FIRST, 30))
        self.assertEqual(pair, (shots[-1], 30))

    def test_what_is_handed_in_stays_as_it_was(self):
        for seed, table in enumerate(many_tables()):
            machine = Machine(table)
            before = machine.table
            shot = spread_shot(seed, states_of(machine), signs_of(machine), 0)
            words = repr(shot)
            after_from(machine, shot, 50)
            after(machine, 50)
            trail(machine, 50)
            stops_at(machine, 50)
            self.assertEqual(repr(shot), words)
            self.assertEqual(machine.table, before)

    def test_one_machine_asked_twice_tells_the_same(self):
        for table in many_tables():
            machine = Machine(table)
            for call in (after, stops_at, trail):
                self.assertEqual(call(machine, 40), call(machine, 40))


if __name__ == "__main__":
    unittest.main()
