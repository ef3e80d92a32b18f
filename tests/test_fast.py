import unittest

from plain import (
    BEAVER_FOUR, BEAVER_THREE, BEAVER_TWO, COUNTS, GOES_RIGHT, STOPS_AT_ONCE, STOPS_AT_ONCE_OF_TWO, SWEEPS, TO_AND_FRO,
    WRITES_LEFT, WRITES_RIGHT, Spread, assert_refused, copied, many_tables, mirrored_table, plain_stretches, plain_walk,
    spread_shot, spread_table, staying_table,
)
from tapeproof.errors import NoStretches, TooLong
from tapeproof.fast import fast_after, fast_from
from tapeproof.machines import Machine
from tapeproof.running import after

FIRST = (0, 0, ())
BLANK_ROW = (0, [], [])
FAR = 10 ** 50 - 1

# Goes to and fro between its marks, one place farther each time; most of its steps lead to their own state.
WIDENS = [
    [(1, "l", 1), (1, "r", 0)],
    [(1, "r", 0), (1, "l", 1)],
]
# Goes over ones to the right writing twos, over twos to the left writing ones, and stops at a three.
TURNS_MARKS = [
    [(0, "r", 0), (2, "r", 0), (2, "l", 1), None],
    [(0, "l", 1), (1, "l", 1), (1, "l", 1), (3, "r", 0)],
]
# Puts blanks in the place of marks, so that the row's end comes nearer.
WIPES_RIGHT = [[None, (0, "r", 0), (0, "r", 0)]]
WIPES_LEFT = [[None, (0, "l", 0), (0, "l", 0)]]
# Over blanks to and fro, each step to the other state: as many leaps as steps.
BLANK_TO_AND_FRO = [[(0, "r", 1)], [(0, "l", 0)]]
# The same entry again and again, but by a step that leads to the other state.
SAME_SIGN_OTHER_STATE = [[(0, "r", 1)], [(0, "r", 0)]]


def staying_tables():
    sizes = [(1, 2), (1, 3), (2, 2), (2, 3), (3, 2), (3, 3), (4, 4), (12, 8)]
    spread = [staying_table(seed, states, signs) for states, signs in sizes for seed in range(10)]
    named = [WIDENS, TURNS_MARKS, WIPES_RIGHT, WIPES_LEFT, BLANK_TO_AND_FRO, SAME_SIGN_OTHER_STATE]
    return spread + named + [mirrored_table(table) for table in named]


def cut_run(table, shot, steps):
    """The run by plain steps, and for each step whether a leap begins with it."""
    walked = plain_walk(table, shot, steps)
    begins = []
    before = None
    for state, place, marks in walked[:-1]:
        read = (state, dict(marks).get(place, 0))
        entry = table[read[0]][read[1]]
        goes_on = before is not None and before[0] == read and before[1][2] == state and before[1][1] == entry[1]
        begins.append(not goes_on)
        before = (read, entry)
    return walked, begins


def clustered_shot(seed, states, signs, about):
    """Marks in clusters of like signs with blanks between, all near the machine."""
    spread = Spread(seed)
    place = about - spread.below(30)
    marks = []
    while place < about + 25:
        sign = spread.below(signs)
        for _ in range(1 + spread.below(7)):
            if sign != 0:
                marks.append((place, sign))
            place += 1
    return (spread.below(states), about, tuple(marks))


class AgainstPlainSteps(unittest.TestCase):
    def assert_told(self, table, shot, steps_asked):
        machine = Machine(table)
        walked, begins = cut_run(table, shot, max(steps_asked))
        given = plain_stretches(shot)
        words = repr(given)
        for steps in steps_asked:
            done = min(max(steps, 0), len(begins))
            leaps = sum(begins[:done])
            expected = (plain_stretches(walked[done]), walked[done][1] - shot[1], done, leaps)
            with self.subTest(table=table, shot=shot, steps=steps):
                for most in (leaps, leaps + 1, 5000):
                    self.assertEqual(fast_from(machine, given, steps, most), expected)
                if leaps > 0:
                    for most in (leaps - 1, 0, -1, -FAR):
                        assert_refused(self, TooLong, fast_from, machine, given, steps, most)
                else:
                    for most in (0, -1, -FAR):
                        self.assertEqual(fast_from(machine, given, steps, most), expected)
        self.assertEqual(repr(given), words)

    def test_from_the_blank_row(self):
        for table in many_tables() + staying_tables():
            self.assert_told(table, FIRST, [-FAR, -1] + list(range(25)) + [59, 60])

    def test_from_clusters(self):
        for seed, table in enumerate(many_tables() + staying_tables()):
            for about in (0, FAR, -FAR):
                shot = clustered_shot(seed, len(table), len(table[0]), about)
                self.assert_told(table, shot, [-1, 0, 1, 2, 3, 4, 5, 9, 20, 40])

    def test_staying_machines_from_many_clusters(self):
        for seed in range(150):
            table = staying_table(seed, 2 + seed % 3, 2 + seed % 4)
            shot = clustered_shot(seed + 1000, len(table), len(table[0]), 0)
            self.assert_told(table, shot, list(range(0, 60, 3)))

    def test_many_leaps_and_long_leaps_are_among_them(self):
        longest = 0
        both_ways = 0
        for seed in range(150):
            table = staying_table(seed, 2 + seed % 3, 2 + seed % 4)
            walked, begins = cut_run(table, clustered_shot(seed + 1000, len(table), len(table[0]), 0), 57)
            ways = {later[1] > earlier[1] for earlier, later in zip(walked, walked[1:])}
            both_ways += len(ways) == 2 and sum(begins) < len(begins)
            longest = max(longest, len(begins) - sum(begins))
        self.assertGreater(longest, 40)
        self.assertGreater(both_ways, 30)

    def test_five_thousand_leaps(self):
        machine = Machine(TO_AND_FRO)
        walked = plain_walk(TO_AND_FRO, FIRST, 5000)
        self.assertEqual(fast_from(machine, BLANK_ROW, 5000, 5000), (plain_stretches(walked[-1]), 0, 5000, 5000))
        assert_refused(self, TooLong, fast_from, machine, BLANK_ROW, 5000, 4999)
        assert_refused(self, TooLong, fast_from, machine, BLANK_ROW, FAR, 5000)

    def test_a_long_plain_run(self):
        for table in (BEAVER_FOUR, SWEEPS, COUNTS, WIDENS):
            self.assert_told(table, FIRST, [1500])


class ByHand(unittest.TestCase):
    def test_over_the_blank_end(self):
        goes = Machine(GOES_RIGHT)
        writes = Machine(WRITES_RIGHT)
        for steps in (1, 2, 1000, FAR):
            self.assertEqual(fast_from(goes, BLANK_ROW, steps, 1), ((0, [], []), steps, steps, 1))
            self.assertEqual(fast_from(writes, BLANK_ROW, steps, 1), ((0, [(1, steps)], []), steps, steps, 1))
            left = Machine(WRITES_LEFT)
            self.assertEqual(fast_from(left, BLANK_ROW, steps, 1), (
                (0, [], [(0, 1), (2, steps)]), -steps, steps, 1,
            ))
            self.assertEqual(fast_from(left, (0, [(0, 2), (2, 1)], [(0, 1), (2, 4)]), 3, 1), (
                (0, [], [(2, 8)]), -3, 3, 1,
            ))

    def test_over_a_blank_end_behind_marks(self):
        machine = Machine(TURNS_MARKS)
        self.assertEqual(fast_from(machine, (0, [], [(1, 5)]), FAR, 2), (
            (0, [(0, FAR - 5), (2, 5)], []), FAR, FAR, 2,
        ))
        assert_refused(self, TooLong, fast_from, machine, (0, [], [(1, 5)]), FAR, 1)
        self.assertEqual(fast_from(machine, (0, [], [(1, 5)]), 5, 1), ((0, [(2, 5)], []), 5, 5, 1))
        self.assertEqual(fast_from(machine, (0, [], [(1, 5)]), 4, 1), ((0, [(2, 4)], [(1, 1)]), 4, 4, 1))

    def test_no_leap_over_the_blank_end_where_another_sign_is_read(self):
        machine = Machine([[(0, "l", 0), (1, "l", 0)]])
        self.assertEqual(fast_from(machine, (0, [], [(1, 1)]), 3, 2), ((0, [], [(0, 3), (1, 1)]), -3, 3, 2))
        assert_refused(self, TooLong, fast_from, machine, (0, [], [(1, 1)]), 3, 1)

    def test_marks_wiped_to_the_end_leave_no_blanks(self):
        right = Machine(WIPES_RIGHT)
        left = Machine(WIPES_LEFT)
        self.assertEqual(fast_from(right, (0, [], [(1, 4), (2, FAR)]), 2 * FAR, 2), ((0, [], []), FAR + 4, FAR + 4, 2))
        self.assertEqual(fast_from(right, (0, [(2, 1)], [(1, 4)]), 9, 1), ((0, [(0, 4), (2, 1)], []), 4, 4, 1))
        self.assertEqual(fast_from(left, (0, [(1, FAR)], [(1, 1)]), 2 * FAR, 1), ((0, [], []), -FAR - 1, FAR + 1, 1))
        self.assertEqual(fast_from(left, (0, [(1, 2)], [(1, 1), (2, 3)]), 9, 1), ((0, [], [(0, 4), (2, 3)]), -3, 3, 1))

    def test_what_is_written_joins_its_like(self):
        right = Machine([[None, (2, "r", 0), None]])
        self.assertEqual(fast_from(right, (0, [(2, 3)], [(1, FAR), (2, 5)]), FAR + 9, 1), (
            (0, [(2, FAR + 3)], [(2, 5)]), FAR, FAR, 1,
        ))
        left = Machine([[None, (2, "l", 0), None]])
        self.assertEqual(fast_from(left, (0, [(1, FAR), (2, 5)], [(1, 1), (2, 3)]), FAR + 9, 1), (
            (0, [(2, 4)], [(2, FAR + 5)]), -FAR - 1, FAR + 1, 1,
        ))

    def test_the_machines_own_cell_and_the_next_one_in_one_leap(self):
        left = Machine([[None, (2, "l", 0), None]])
        self.assertEqual(fast_from(left, (0, [(1, 6), (2, 1)], [(1, 4)]), 3, 1), (
            (0, [(1, 3), (2, 1)], [(1, 1), (2, 3), (1, 3)]), -3, 3, 1,
        ))
        self.assertEqual(fast_from(left, (0, [(2, 6)], [(1, 4)]), 3, 1), ((0, [(2, 5)], [(2, 2), (1, 3)]), -1, 1, 1))

    def test_a_step_to_another_state_is_the_last_of_its_leap(self):
        machine = Machine(SAME_SIGN_OTHER_STATE)
        self.assertEqual(fast_from(machine, BLANK_ROW, 7, 7), ((1, [], []), 7, 7, 7))
        assert_refused(self, TooLong, fast_from, machine, BLANK_ROW, 7, 6)

    def test_stops_at_once_and_later(self):
        for table in (STOPS_AT_ONCE, STOPS_AT_ONCE_OF_TWO):
            for steps in (-1, 0, 1, FAR):
                for most in (-1, 0, 5):
                    self.assertEqual(fast_from(Machine(table), BLANK_ROW, steps, most), ((0, [], []), 0, 0, 0))
        machine = Machine(TURNS_MARKS)
        self.assertEqual(fast_from(machine, (0, [(1, 2)], [(3, 1)]), FAR, 0), ((0, [(1, 2)], [(3, 1)]), 0, 0, 0))
        self.assertEqual(fast_from(machine, (0, [], [(1, FAR), (3, 1)]), 2 * FAR, 1), (
            (0, [(2, FAR)], [(3, 1)]), FAR, FAR, 1,
        ))


class InTwoParts(unittest.TestCase):
    def assert_in_two_parts(self, machine, row, first, second):
        whole = fast_from(machine, row, first + second, 5000)
        begun = fast_from(machine, row, first, 5000)
        ended = fast_from(machine, begun[0], second, 5000)
        self.assertEqual(ended[0], whole[0])
        self.assertEqual(begun[1] + ended[1], whole[1])
        self.assertEqual(begun[2] + ended[2], whole[2])
        self.assertIn(begun[3] + ended[3] - whole[3], (0, 1))
        return begun[3] + ended[3] - whole[3]

    def test_counts_and_steps_of_fifty_figures(self):
        more = set()
        parts = (0, 1, 5, FAR // 7, FAR // 3, FAR - 1, FAR, FAR + 1, 2 * FAR)
        for table in (TURNS_MARKS, WIPES_RIGHT + [[None] * 3], GOES_RIGHT, WRITES_RIGHT):
            signs = len(table[0])
            for seed in range(12):
                row = big_row(seed, len(table), signs)
                for first in parts:
                    for second in parts:
                        more.add(self.assert_in_two_parts(Machine(table), row, first, second))
        self.assertEqual(more, {0, 1})

    def test_where_the_run_is_long(self):
        # Over these rows each sweep takes some leaps and a great many steps.
        for table in (WIDENS, mirrored_table(WIDENS)):
            machine = Machine(table)
            rows = ((0, [(1, FAR)], [(1, FAR // 2)]), (1, [(1, FAR)], [(1, FAR // 2)]), (0, [], [(0, 1), (1, FAR)]))
            for row in rows:
                for first in (1, FAR // 2, FAR, 7 * FAR, 20 * FAR + 3):
                    for second in (0, 1, 2, FAR // 2, 9 * FAR, 10 ** 52):
                        self.assert_in_two_parts(machine, row, first, second)

    def test_sweeps_over_a_great_stretch_by_hand(self):
        machine = Machine(WIDENS)
        # To the right end, one mark there, back to the left end, one mark there: four leaps but the first.
        # A turn's step leads to the other state, and is a leap of its own.
        told = fast_from(machine, (0, [], [(1, FAR)]), FAR + 1 + FAR + 1, 4)
        self.assertEqual(told, ((0, [(1, 1)], [(1, FAR + 1)]), 0, 2 * FAR + 2, 4))
        assert_refused(self, TooLong, fast_from, machine, (0, [], [(1, FAR)]), FAR + 1 + FAR + 1, 3)

    def test_small_rows(self):
        for seed, table in enumerate(many_tables() + staying_tables()):
            shot = clustered_shot(seed, len(table), len(table[0]), 0)
            for first in (0, 1, 4, 11):
                for second in (0, 1, 3, 17):
                    self.assert_in_two_parts(Machine(table), plain_stretches(shot), first, second)


def big_row(seed, states, signs):
    spread = Spread(seed)
    sides = []
    for _ in range(2):
        side = []
        for _ in range(spread.below(5)):
            sign = spread.below(signs)
            if not side or side[-1][0] != sign:
                side.append((sign, 1 + 10 ** spread.below(50) * (1 + spread.below(9))))
        while side and side[-1][0] == 0:
            side.pop()
        sides.append(side)
    return (spread.below(states), sides[0], sides[1])


WRONG_ROWS = [
    (-1, [], []), (-FAR, [(1, 1)], []),
    (0, [(1, 0)], []), (0, [], [(1, 0)]), (0, [(1, -1)], []), (0, [], [(1, 2), (2, -FAR)]),
    (0, [(1, 1), (1, 1)], []), (0, [], [(2, FAR), (2, 1)]), (0, [], [(0, 1), (0, 2), (1, 1)]),
    (0, [(0, 1)], []), (0, [], [(0, 1)]), (0, [(1, 1), (0, FAR)], []), (0, [], [(2, 1), (0, 3)]),
    (0, [(-1, 1)], []), (0, [], [(-1, 1)]), (0, [], [(1, 1), (-FAR, 1)]),
    (True, [], []), (None, [], []), (0, None, []), (0, [], [None]), (0, [], [(True, 1)]), (0, [(1, True)], []),
    (0, [], []) + ([],), (0, []), (),
]
# Of a machine of two states and three signs.
NOT_OF_THE_MACHINE = [
    (2, [], []), (3, [], []), (FAR, [], []), (0, [(3, 1)], []), (0, [], [(3, 1)]), (1, [(1, 4), (3, 1)], [(2, 1)]),
    (1, [(2, 1)], [(1, 4), (0, 2), (FAR, 1)]), (0, [(0, FAR), (3, FAR)], []),
]


class Refused(unittest.TestCase):
    def test_rows_that_are_none(self):
        for table in (COUNTS, spread_table(4, 2, 3), [[None] * 3] * 2):
            machine = Machine(table)
            for row in WRONG_ROWS + NOT_OF_THE_MACHINE:
                for steps in (-1, 0, 1, FAR):
                    # A most of nought or below is too few leaps as well: this refusal comes first.
                    for most in (-1, 0, 1, 5000):
                        with self.subTest(row=row, steps=steps, most=most):
                            assert_refused(self, NoStretches, fast_from, machine, row, steps, most)

    def test_what_is_just_the_machines_is_taken(self):
        machine = Machine(COUNTS)
        for row in ((1, [], []), (1, [(2, 1)], [(2, 1)]), (0, [(0, 1), (2, FAR)], [(0, 3), (1, 1), (2, 1)])):
            self.assertEqual(fast_from(machine, row, 0, 0), (row, 0, 0, 0))
            self.assertEqual(fast_from(machine, row, 1, 1)[2:], (1, 1))

    def test_what_is_another_machines(self):
        row = (1, [(2, 1)], [(1, 1)])
        fast_from(Machine(COUNTS), row, 3, 3)
        assert_refused(self, NoStretches, fast_from, Machine(spread_table(4, 1, 3)), row, 3, 3)
        assert_refused(self, NoStretches, fast_from, Machine(spread_table(4, 2, 2)), row, 3, 3)

    def test_too_long_only_where_a_leap_would_begin(self):
        machine = Machine(BEAVER_THREE)
        leaps = fast_from(machine, BLANK_ROW, 13, 5000)[3]
        for steps in (13, 14, FAR):
            self.assertEqual(fast_from(machine, BLANK_ROW, steps, leaps)[2:], (13, leaps))
            assert_refused(self, TooLong, fast_from, machine, BLANK_ROW, steps, leaps - 1)


class FastAfter(unittest.TestCase):
    def test_is_after(self):
        for table in many_tables() + staying_tables():
            machine = Machine(table)
            walked, begins = cut_run(table, FIRST, 80)
            for steps in [-FAR, -1] + list(range(20)) + [50, 80]:
                done = min(max(steps, 0), len(begins))
                leaps = sum(begins[:done])
                expected = (walked[done], done)
                with self.subTest(table=table, steps=steps):
                    self.assertEqual(after(machine, steps), expected)
                    self.assertEqual(fast_after(machine, steps), expected)
                    self.assertEqual(fast_after(machine, steps, leaps), expected)
                    self.assertEqual(fast_after(machine, steps, leaps + 1), expected)
                    if leaps > 0:
                        assert_refused(self, TooLong, fast_after, machine, steps, leaps - 1)
                        assert_refused(self, TooLong, fast_after, machine, steps, -1)
                    else:
                        self.assertEqual(fast_after(machine, steps, -1), expected)

    def test_to_and_fro_over_blanks_needs_as_many_leaps_as_steps(self):
        machine = Machine(BLANK_TO_AND_FRO)
        for steps in (1, 2, 77, 4999, 5000):
            told = ((steps % 2, steps % 2, ()), steps)
            self.assertEqual(fast_after(machine, steps), told)
            self.assertEqual(fast_after(machine, steps, steps), told)
            assert_refused(self, TooLong, fast_after, machine, steps, steps - 1)

    def test_five_thousand_leaps_where_most_is_left_out(self):
        machine = Machine(BLANK_TO_AND_FRO)
        for steps in (5001, 5002, FAR):
            assert_refused(self, TooLong, fast_after, machine, steps)
        self.assertEqual(fast_after(machine, 5001, 5001), ((1, 1, ()), 5001))

    def test_on_alone_over_blanks(self):
        for steps in (FAR, FAR - 1, 10 ** 49):
            self.assertEqual(fast_after(Machine(GOES_RIGHT), steps), ((0, steps, ()), steps))
            self.assertEqual(fast_after(Machine(GOES_RIGHT), steps, 1), ((0, steps, ()), steps))
            self.assertEqual(fast_after(Machine(mirrored_table(GOES_RIGHT)), steps, 1), ((0, -steps, ()), steps))
            # A mark at its beginning, and then blanks alone.
            leaves = Machine([[(1, "l", 1), None], [(0, "l", 1), None]])
            self.assertEqual(fast_after(leaves, steps, 2), ((1, -steps, ((0, 1),)), steps))
            assert_refused(self, TooLong, fast_after, leaves, steps, 1)

    def test_stops(self):
        for table, done in ((BEAVER_TWO, 5), (BEAVER_THREE, 13), (BEAVER_FOUR, 106)):
            machine = Machine(table)
            for steps in (done, done + 1, FAR):
                self.assertEqual(fast_after(machine, steps), after(machine, done))
        for steps in (-1, 0, 1, FAR):
            self.assertEqual(fast_after(Machine(STOPS_AT_ONCE), steps, -1), (FIRST, 0))

    def test_the_kinds(self):
        told = fast_after(Machine(BEAVER_FOUR), 50)
        self.assertIs(type(told), tuple)
        self.assertIs(type(told[0]), tuple)
        self.assertIs(type(told[0][2]), tuple)


class WhatIsTold(unittest.TestCase):
    def test_the_kinds(self):
        for row in ((0, [(1, 3)], [(2, 1)]), (0, ((1, 3),), ((2, 1),))):
            for steps in (0, 1, 9):
                told = fast_from(Machine(COUNTS), row, steps, 100)
                self.assertIs(type(told), tuple)
                self.assertEqual(len(told), 4)
                self.assertIs(type(told[0]), tuple)
                for side in told[0][1:]:
                    self.assertIs(type(side), list)
                    self.assertTrue(all(type(pair) is tuple and len(pair) == 2 for pair in side))

    def test_lists_and_tuples_are_alike(self):
        for seed, table in enumerate(staying_tables()):
            state, left, right = plain_stretches(clustered_shot(seed, len(table), len(table[0]), 0))
            told = fast_from(Machine(table), (state, left, right), 30, 100)
            self.assertEqual(fast_from(Machine(table), (state, tuple(left), tuple(right)), 30, 100), told)

    def test_told_lists_are_the_askers_own(self):
        for seed, table in enumerate(staying_tables()):
            machine = Machine(table)
            row = plain_stretches(clustered_shot(seed, len(table), len(table[0]), 0))
            for steps in (-1, 0, 1, 30):
                given = copied(row)
                told = fast_from(machine, given, steps, 100)
                expected = copied(told)
                told[0][1].append("more")
                told[0][2].clear()
                self.assertEqual(given, row)
                self.assertEqual(fast_from(machine, given, steps, 100), expected)

    def test_lists_handed_in_are_not_kept(self):
        for steps in (0, 1, 30):
            given = (0, [(1, 3), (2, 1)], [(2, 2), (0, 4), (1, 1)])
            told = fast_from(Machine(COUNTS), given, steps, 100)
            expected = copied(told)
            given[1].clear()
            given[2].append((2, 7))
            self.assertEqual(told, expected)

    def test_the_machine_stays_as_it_was(self):
        machine = Machine(COUNTS)
        before = machine.table
        shot = spread_shot(3, 2, 3, 0, 200)
        fast_from(machine, plain_stretches(shot), 50, 100)
        fast_after(machine, 50)
        self.assertEqual(machine.table, before)


if __name__ == "__main__":
    unittest.main()
