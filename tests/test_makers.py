import unittest

from plain import (
    BEAVER_FOUR, BEAVER_THREE, BEAVER_TWO, FAR, GOES_RIGHT, STOPS_AT_ONCE, SWEEPS, TABLES, TO_AND_FRO, WRITES_LEFT,
    WRITES_RIGHT, as_tuples, many_tables, mirrored_table, plain_of, plain_same, plain_shifted, spread_table,
    staying_table,
)
from tapeproof.checker import takes
from tapeproof.machines import Machine
from tapeproof.makers import same_of, shifted_of
from tapeproof.turns import machine_of

MAKERS = (("same", same_of, plain_same), ("shifted", shifted_of, plain_shifted))


def some_tables():
    tables = [machine_of(1, 2, number).table for number in range(25)]
    tables += [machine_of(3, 1, number).table for number in range(343)]
    tables += [machine_of(2, 2, number).table for number in range(0, 6561, 7)]
    tables += [machine_of(3, 2, number).table for number in range(777777, 13 ** 6, 59999)]
    return tables + TABLES + [mirrored_table(table) for table in TABLES]


class TheLeast(unittest.TestCase):
    def test_among_all_pairs(self):
        most = 14
        for kind, maker, holds in MAKERS:
            found = {True: 0, False: 0}
            later_ones = 0
            for table in some_tables():
                expected = plain_of(table, most, kind, holds)
                with self.subTest(table=table, kind=kind):
                    told = maker(Machine(table), most)
                    self.assertEqual(told, expected)
                    self.assertEqual(repr(told), repr(expected))
                found[expected is not None] += 1
                later_ones += expected is not None and expected[1] > 0
            self.assertGreater(min(found.values()), 40)
            self.assertGreater(later_ones, 15)

    def test_larger_machines(self):
        for kind, maker, holds in MAKERS:
            for table in many_tables() + [staying_table(seed, 3, 3) for seed in range(20)]:
                self.assertEqual(maker(Machine(table), 20), plain_of(table, 20, kind, holds))

    def test_by_hand(self):
        self.assertEqual(same_of(Machine(TO_AND_FRO), 200), ("same", 0, 4))
        self.assertEqual(shifted_of(Machine(GOES_RIGHT), 200), ("shifted", 0, 1))
        self.assertEqual(shifted_of(Machine(WRITES_RIGHT), 200), ("shifted", 0, 1))
        self.assertEqual(shifted_of(Machine(WRITES_LEFT), 1), ("shifted", 0, 1))
        # Two steps to the right, and from there on to and fro.
        table = [[(0, "r", 1)], [(0, "r", 2)], [(0, "r", 3)], [(0, "l", 2)]]
        self.assertEqual(same_of(Machine(table), 200), ("same", 2, 4))
        self.assertIsNone(shifted_of(Machine(table), 200))
        # Two steps to the left, and from there on to the right; three steps a round, of which one goes back.
        table = [[(0, "l", 1)], [(0, "l", 2)], [(0, "r", 3)], [(0, "r", 4)], [(0, "l", 2)]]
        self.assertEqual(shifted_of(Machine(table), 200), ("shifted", 2, 5))
        self.assertIsNone(same_of(Machine(table), 200))

    def test_the_later_ones(self):
        # A ring of states that goes on to the right: it comes round by so many steps.
        for states in (1, 2, 5, 12):
            table = [[(0, "r", (state + 1) % states)] for state in range(states)]
            self.assertEqual(shifted_of(Machine(table), 200), ("shifted", 0, states))
            self.assertIsNone(same_of(Machine(table), 200))

    def test_through_two_hundred_steps(self):
        # It sweeps to and fro, farther each time: nothing is ever found.
        for kind, maker, holds in MAKERS:
            self.assertIsNone(maker(Machine(SWEEPS), 200))
        for kind, maker, holds, table, first, later in (
            MAKERS[0] + (spread_table(31864, 4, 3), 8, 52), MAKERS[1] + (spread_table(55012, 5, 3), 38, 59),
        ):
            for turned in (table, mirrored_table(table)):
                self.assertEqual(plain_of(turned, later, kind, holds), (kind, first, later))
                for most in (later, later + 1, 200):
                    self.assertEqual(maker(Machine(turned), most), (kind, first, later))
                self.assertIsNone(maker(Machine(turned), later - 1))

    def test_a_long_walk_ahead_of_the_round(self):
        # A busy beaver that goes to the right over ones and blanks where it would stop.
        for stopping, stop in ((BEAVER_TWO, 5), (BEAVER_THREE, None), (BEAVER_FOUR, 106)):
            states = len(stopping)
            table = [[entry or (1, "r", states) for entry in row] for row in stopping] + [[(1, "r", states)] * 2]
            paper = shifted_of(Machine(table), 200)
            self.assertEqual(paper, plain_of(table, 130, "shifted", plain_shifted))
            if stop is not None:
                self.assertGreater(paper[1], stop)


class Most(unittest.TestCase):
    def test_below_one_there_is_none(self):
        for table in TABLES + [machine_of(1, 2, number).table for number in range(25)]:
            for most in (0, -1, -2, -200, -FAR):
                for kind, maker, holds in MAKERS:
                    self.assertIsNone(maker(Machine(table), most))

    def test_just_as_great_as_the_later_one_less_and_one_more(self):
        for kind, maker, holds in MAKERS:
            tried = 0
            for table in some_tables():
                machine = Machine(table)
                paper = maker(machine, 40)
                if paper is not None:
                    self.assertEqual(maker(machine, paper[2]), paper)
                    self.assertEqual(maker(machine, paper[2] + 1), paper)
                    self.assertEqual(maker(machine, 200), paper)
                    self.assertIsNone(maker(machine, paper[2] - 1))
                    tried += 1
            self.assertGreater(tried, 40)


class Stopping(unittest.TestCase):
    def test_none_for_machines_that_stop(self):
        for table in (STOPS_AT_ONCE, BEAVER_TWO, BEAVER_THREE, BEAVER_FOUR):
            for most in (1, 2, 5, 6, 20, 106, 107, 200):
                for turned in (table, mirrored_table(table)):
                    self.assertIsNone(same_of(Machine(turned), most))

    def test_a_paper_is_none_that_is_not_taken(self):
        # It goes to the right for a while, as if it always would, and stops.
        table = [[(0, "r", 1), None], [(0, "r", 2), None], [None, None]]
        for most in range(8):
            self.assertIsNone(same_of(Machine(table), most))
            self.assertIsNone(shifted_of(Machine(table), most))
        for table in (STOPS_AT_ONCE, BEAVER_TWO, BEAVER_THREE, BEAVER_FOUR):
            self.assertIsNone(shifted_of(Machine(table), 200))


class Taken(unittest.TestCase):
    def test_each_paper_that_is_told(self):
        for kind, maker, holds in MAKERS:
            told = 0
            for table in some_tables() + many_tables():
                paper = maker(Machine(table), 60)
                if paper is not None:
                    self.assertIs(takes(Machine(table), paper), True)
                    self.assertEqual([type(thing) for thing in paper], [str, int, int])
                    told += 1
            self.assertGreater(told, 40)


class WhatIsAsked(unittest.TestCase):
    def test_the_machine_stays_and_the_same_is_told_again(self):
        for table in TABLES:
            machine = Machine(table)
            for kind, maker, holds in MAKERS:
                told = maker(machine, 50)
                self.assertEqual(maker(machine, 50), told)
            self.assertEqual(machine.table, as_tuples(table))


if __name__ == "__main__":
    unittest.main()
