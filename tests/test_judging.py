import unittest

from plain import (
    BEAVER_FOUR, BEAVER_THREE, BEAVER_TWO, COUNTS, FAR, GOES_RIGHT, STOPS_AT_ONCE, STOPS_AT_ONCE_OF_TWO, SWEEPS, TABLES,
    TO_AND_FRO, WRITES_LEFT, WRITES_RIGHT, as_tuples, copied, many_tables, mirrored_table, plain_shown, plain_stop,
    plain_wall, plain_word, spread_table,
)
from tapeproof.checker import takes
from tapeproof.judging import shown
from tapeproof.machines import Machine
from tapeproof.makers import same_of, shifted_of
from tapeproof.turns import machine_of
from tapeproof.walls import wall_of

# Machines of which nothing comes round within a hundred steps, with how many contexts their walls of the widths one
# to three have.
WALL_OF_ONE = (SWEEPS, (9, 15, 26))
WALL_OF_TWO_ALONE = (spread_table(3112, 3, 2), (None, 20, 33))
WALL_OF_THREE_ALONE = (spread_table(6003, 3, 2), (None, None, 17))
NO_WALL = (spread_table(93658, 3, 2), (None, None, None))
JUST_TWO_HUNDRED = (spread_table(41246, 4, 4), (200, 29, 44))
ONE_MORE = (spread_table(30795, 4, 4), (201, 1437, None))
ONE_MORE_AND_FEWER_IF_WIDER = (spread_table(47345, 4, 5), (201, 50, 89))
LARGE_AND_FEWER_IF_WIDER = (spread_table(3462, 4, 5), (284, 56, 29))
LARGE_OF_TWO = (spread_table(199364, 4, 3), (None, 230, 757))
LARGE_OF_THREE = (spread_table(279900, 4, 3), (None, None, 310))
BY_WALLS = [
    WALL_OF_ONE, WALL_OF_TWO_ALONE, WALL_OF_THREE_ALONE, NO_WALL, JUST_TWO_HUNDRED, ONE_MORE,
    ONE_MORE_AND_FEWER_IF_WIDER, LARGE_AND_FEWER_IF_WIDER, LARGE_OF_TWO, LARGE_OF_THREE,
]

# Each with the number of steps behind which it stops.
STOPPING = [
    (STOPS_AT_ONCE, 0), (STOPS_AT_ONCE_OF_TWO, 0), ([[(1, "r", 1), None], [None, None]], 1), (BEAVER_TWO, 5),
    (BEAVER_THREE, 13), (BEAVER_FOUR, 106),
]


def some_tables():
    tables = [machine_of(1, 1, number).table for number in range(3)]
    tables += [machine_of(1, 2, number).table for number in range(25)]
    tables += [machine_of(2, 2, number).table for number in range(0, 6561, 13)]
    tables += [machine_of(3, 2, number).table for number in range(777777, 13 ** 6, 59999)]
    return tables + many_tables() + [mirrored_table(table) for table in TABLES]


class ShownCase(unittest.TestCase):
    def assert_shown(self, table, most, width, expected):
        with self.subTest(table=table, most=most, width=width):
            told = shown(Machine(table), most, width)
            self.assertEqual(told, expected)
            self.assertEqual(repr(told), repr(expected))


class Stops(ShownCase):
    def test_within_most_and_just_at_most(self):
        for table, steps in STOPPING:
            for most in (steps, steps + 1, steps + 2, steps + 50, 200):
                for width in (-1, 0, 1, 2, 3):
                    self.assert_shown(table, most, width, ("stops", steps))
                    self.assert_shown(mirrored_table(table), most, width, ("stops", steps))

    def test_one_behind_most(self):
        # No paper holds of a machine that stops.
        for table, steps in STOPPING:
            for most in (steps - 1, steps - 2, steps // 2 if steps > 1 else -1, -1, -FAR):
                for width in (-1, 0, 1, 2, 3):
                    self.assert_shown(table, most, width, ("open", None))

    def test_a_long_run(self):
        # Goes to the right for as many steps as it has states, and stops.
        table = [[(1, "r", state + 1)] * 2 for state in range(11)] + [[None, None]]
        self.assert_shown(table, 11, 2, ("stops", 11))
        self.assert_shown(table, 10, 2, ("open", None))
        self.assert_shown(BEAVER_FOUR, 5000, 2, ("stops", 106))


class MostOfNought(ShownCase):
    def test_a_stop_at_once(self):
        for table in (STOPS_AT_ONCE, STOPS_AT_ONCE_OF_TWO):
            self.assert_shown(table, 0, 2, ("stops", 0))
            for most in (-1, -2, -FAR):
                self.assert_shown(table, most, 2, ("open", None))

    def test_nothing_comes_round_but_walls_are_looked_for(self):
        for table in (GOES_RIGHT, WRITES_RIGHT, WRITES_LEFT, TO_AND_FRO, SWEEPS, COUNTS):
            for most in (0, -1, -FAR):
                self.assert_shown(table, most, 1, ("never", plain_wall(table, 1)))
                self.assert_shown(table, most, 3, ("never", plain_wall(table, 1)))
                self.assert_shown(table, most, 0, ("open", None))


class NeverByComingRound(ShownCase):
    def test_by_hand(self):
        for width in (-1, 0, 1, 2, 3):
            self.assert_shown(TO_AND_FRO, 200, width, ("never", ("same", 0, 4)))
            self.assert_shown(TO_AND_FRO, 4, width, ("never", ("same", 0, 4)))
            self.assert_shown(GOES_RIGHT, 200, width, ("never", ("shifted", 0, 1)))
            self.assert_shown(GOES_RIGHT, 1, width, ("never", ("shifted", 0, 1)))
            self.assert_shown(COUNTS, 3, width, ("never", ("shifted", 0, 3)))
            self.assert_shown(COUNTS, 200, width, ("never", ("shifted", 0, 3)))

    def test_just_at_most_and_one_behind_it(self):
        for table, paper in (
            (spread_table(31864, 4, 3), ("same", 8, 52)), (spread_table(55012, 5, 3), ("shifted", 38, 59)),
        ):
            later = paper[2]
            for most in (later, later + 1, 200):
                self.assert_shown(table, most, 0, ("never", paper))
                self.assert_shown(table, most, 2, ("never", paper))
            self.assert_shown(table, later - 1, 0, ("open", None))

    def test_ahead_of_walls(self):
        # These have walls of width 1, which are told where nothing comes round within most.
        for table, paper in (
            (TO_AND_FRO, ("same", 0, 4)), (COUNTS, ("shifted", 0, 3)), (GOES_RIGHT, ("shifted", 0, 1)),
        ):
            wall = plain_wall(table, 1)
            self.assertIsNotNone(wall)
            self.assert_shown(table, paper[2] - 1, 2, ("never", wall))
            self.assert_shown(table, paper[2], 2, ("never", paper))

    def test_no_machine_comes_round_both_ways(self):
        seen_kinds = {"same": 0, "shifted": 0}
        for table in some_tables():
            papers = [maker(Machine(table), 60) for maker in (same_of, shifted_of)]
            papers = [paper for paper in papers if paper is not None]
            self.assertLessEqual(len(papers), 1)
            for paper in papers:
                seen_kinds[paper[0]] += 1
                self.assert_shown(table, 60, 2, ("never", paper))
        self.assertGreater(min(seen_kinds.values()), 20)


class NeverByWalls(ShownCase):
    def test_how_many_contexts_they_have(self):
        for table, sizes in BY_WALLS:
            self.assertIsNone(plain_stop(table, 1000))
            for width, size in enumerate(sizes, start=1):
                paper = plain_wall(table, width, 3000)
                self.assertEqual(paper and len(paper[4]), size)

    def test_the_first_width_that_has_one(self):
        # At each width the first one so far that has no more than two hundred contexts.
        for table, sizes in BY_WALLS:
            expected = ("open", None)
            for width in (-FAR, -1, 0):
                self.assert_shown(table, 100, width, expected)
            for width, size in enumerate(sizes, start=1):
                if expected == ("open", None) and size is not None and size <= 200:
                    expected = ("never", plain_wall(table, width))
                self.assert_shown(table, 100, width, expected)
                self.assert_shown(table, 0, width, expected)
                self.assert_shown(table, -1, width, expected)

    def test_by_hand(self):
        def width_of(machine_and_sizes, width):
            told = shown(Machine(machine_and_sizes[0]), 100, width)
            return told[1][1] if told[0] == "never" else None
        self.assertEqual([width_of(WALL_OF_ONE, width) for width in range(4)], [None, 1, 1, 1])
        self.assertEqual([width_of(WALL_OF_TWO_ALONE, width) for width in range(4)], [None, None, 2, 2])
        self.assertEqual([width_of(WALL_OF_THREE_ALONE, width) for width in range(4)], [None, None, None, 3])
        self.assertEqual([width_of(NO_WALL, width) for width in range(4)], [None] * 4)
        self.assertEqual([width_of(JUST_TWO_HUNDRED, width) for width in range(4)], [None, 1, 1, 1])
        self.assertEqual([width_of(ONE_MORE, width) for width in range(4)], [None] * 4)
        self.assertEqual([width_of(ONE_MORE_AND_FEWER_IF_WIDER, width) for width in range(4)], [None, None, 2, 2])
        self.assertEqual([width_of(LARGE_AND_FEWER_IF_WIDER, width) for width in range(4)], [None, None, 2, 2])
        self.assertEqual([width_of(LARGE_OF_TWO, width) for width in range(4)], [None] * 4)
        self.assertEqual([width_of(LARGE_OF_THREE, width) for width in range(4)], [None] * 4)

    def test_width_left_out_is_two(self):
        for table, sizes in BY_WALLS:
            for most in (100, 0):
                self.assertEqual(shown(Machine(table), most), shown(Machine(table), most, 2))
        self.assertEqual(shown(Machine(WALL_OF_TWO_ALONE[0]), 100), ("never", plain_wall(WALL_OF_TWO_ALONE[0], 2)))
        self.assertEqual(shown(Machine(WALL_OF_THREE_ALONE[0]), 100), ("open", None))
        self.assertEqual(shown(machine=Machine(SWEEPS), most=100, width=0), ("open", None))


class Plainly(ShownCase):
    def test_against_stops_pairs_and_walls_told_plainly(self):
        words = {}
        for table in some_tables():
            for most, width in ((12, 2), (2, 1), (0, 3), (-1, 2), (1, 0)):
                expected = plain_shown(table, most, width)
                self.assert_shown(table, most, width, expected)
                word = plain_word(expected)
                words[word] = words.get(word, 0) + 1
        self.assertEqual(set(words), {"stops", "same", "shifted", "wall", "open"})
        self.assertGreater(min(words.values()), 20)

    def test_as_the_makers_tell(self):
        for table in some_tables():
            machine = Machine(table)
            steps = plain_stop(table, 200)
            papers = [same_of(machine, 200), shifted_of(machine, 200)]
            papers += [wall_of(machine, width, 200) for width in (1, 2)]
            papers = [("never", paper) for paper in papers if paper is not None]
            expected = ("stops", steps) if steps is not None else (papers + [("open", None)])[0]
            self.assert_shown(table, 200, 2, expected)


class WhatIsTold(unittest.TestCase):
    def test_a_pair_whose_paper_is_taken(self):
        for table in some_tables() + [table for table, sizes in BY_WALLS]:
            for most, width in ((60, 2), (0, 1), (0, 2)):
                told = shown(Machine(table), most, width)
                self.assertEqual((type(told), len(told)), (tuple, 2))
                if told[0] == "stops":
                    self.assertIs(type(told[1]), int)
                elif told[0] == "never":
                    self.assertIs(takes(Machine(table), told[1]), True)
                else:
                    self.assertEqual(told, ("open", None))

    def test_changed_and_told_again(self):
        for table, sizes in BY_WALLS[:3]:
            machine = Machine(table)
            first = shown(machine, 100, 3)
            before = copied(first)
            for things in first[1][2:]:
                things.clear()
            self.assertEqual(shown(machine, 100, 3), before)
            second = shown(machine, 100, 3)
            for things in second[1][2:]:
                things.append(None)
                things.reverse()
            self.assertEqual(shown(machine, 100, 3), before)
            self.assertEqual(shown(Machine(table), 100, 3), before)
            self.assertEqual(machine.table, as_tuples(table))

    def test_what_was_told_stays(self):
        told = [shown(Machine(table), 100, 3) for table, sizes in BY_WALLS]
        before = copied(told)
        for table, sizes in BY_WALLS:
            shown(Machine(table), 100, 3)
            shown(Machine(mirrored_table(table)), 100, 3)
        self.assertEqual(told, before)


if __name__ == "__main__":
    unittest.main()
