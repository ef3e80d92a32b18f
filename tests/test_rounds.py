import unittest

from plain import (
    BEAVER_FOUR, BEAVER_TWO, FIRST, GOES_RIGHT, STOPS_AT_ONCE, SWEEPS, TABLES, TO_AND_FRO, WRITES_LEFT, WRITES_RIGHT,
    differing, many_tables, mirrored_table, plain_same, plain_shifted, plain_walk, staying_table,
)
from tapeproof.machines import Machine
from tapeproof.rounds import takes_same, takes_shifted
from tapeproof.turns import machine_of

# Each with a table, first and later. The names tell how the row behind later steps, seen from the machine, differs.
# low is 1: the cells differ at 1 to the left of the place alone, which is the last one that must be the same.
EDGE_DIFFERS = ([[(1, "l", 1), (1, "r", 0)], [(0, "r", 0), None]], 0, 3)
# low is 2, likewise.
EDGE_DIFFERS_AT_TWO = ([[(1, "l", 1), (1, "r", 0)], [(0, "r", 0), (0, "l", 1)]], 3, 10)
# low is 0: the machine's own cell differs.
OWN_CELL_DIFFERS = ([[(1, "r", 1), (0, "r", 0)], [(0, "l", 0), None]], 2, 3)
# A cell to the right differs, farther off than the machine comes between the two.
FAR_CELL_DIFFERS = ([[(1, "r", 1), (0, "r", 0)], [(1, "l", 1), (1, "l", 0)]], 5, 6)
# low is 1, and the cells differ at 2 to the left of the place: the paper is taken.
NEXT_TO_EDGE_DIFFERS = ([[(1, "r", 1), (1, "r", 0)], [(0, "l", 0), None]], 1, 4)
# low is 2, likewise at 3.
NEXT_TO_EDGE_AT_TWO = ([[(1, "r", 1), (1, "l", 0)], [(0, "l", 0), (0, "r", 0)]], 1, 6)

WITHIN = (EDGE_DIFFERS, EDGE_DIFFERS_AT_TWO, OWN_CELL_DIFFERS, FAR_CELL_DIFFERS)
BEYOND = (NEXT_TO_EDGE_DIFFERS, NEXT_TO_EDGE_AT_TWO)


def some_tables():
    """All of one state and two signs, some of two and of three states, and the named ones."""
    tables = [machine_of(1, 2, number).table for number in range(25)]
    tables += [machine_of(2, 2, number).table for number in range(0, 6561, 13)]
    tables += [machine_of(3, 2, number).table for number in range(777777, 13 ** 6, 49999)]
    named = [table for table, first, later in WITHIN + BEYOND]
    return tables + TABLES + named + [mirrored_table(table) for table in named]


class AgainstThePlainWalk(unittest.TestCase):
    def test_all_papers_of_some_steps(self):
        most = 13
        taken = {"same": 0, "shifted": 0}
        for table in some_tables():
            machine = Machine(table)
            walked = plain_walk(table, FIRST, most)
            for later in range(most + 1):
                for first in range(later + 2):
                    same = plain_same(walked, first, later)
                    shifted = plain_shifted(walked, first, later)
                    with self.subTest(table=table, first=first, later=later):
                        self.assertIs(takes_same(machine, ("same", first, later)), same)
                        self.assertIs(takes_shifted(machine, ("shifted", first, later)), shifted)
                    taken["same"] += same
                    taken["shifted"] += shifted
        self.assertGreater(taken["same"], 500)
        self.assertGreater(taken["shifted"], 500)

    def test_larger_machines(self):
        for table in many_tables() + [staying_table(seed, 3, 3) for seed in range(40)]:
            machine = Machine(table)
            walked = plain_walk(table, FIRST, 41)
            for first in (0, 1, 2, 5, 11, 20):
                for later in (first + 1, first + 2, first + 3, first + 4, first + 6, 40, 41):
                    same = plain_same(walked, first, later)
                    shifted = plain_shifted(walked, first, later)
                    with self.subTest(table=table, first=first, later=later):
                        self.assertIs(takes_same(machine, ("same", first, later)), same)
                        self.assertIs(takes_shifted(machine, ("shifted", first, later)), shifted)


class Same(unittest.TestCase):
    def test_papers_that_hold(self):
        # It marks a cell, wipes the mark away again, and so on: round by four.
        for first, later in ((0, 4), (1, 5), (2, 6), (3, 15), (0, 5000), (4996, 5000)):
            self.assertIs(takes_same(Machine(TO_AND_FRO), ("same", first, later)), True)
            self.assertIs(takes_same(Machine(TO_AND_FRO), ("same", first, later - 2)), False)
        machine = Machine([[(0, "r", 1)], [(0, "l", 0)]])
        for first, later in ((0, 2), (1, 3), (0, 5000), (4998, 5000)):
            self.assertIs(takes_same(machine, ("same", first, later)), True)

    def test_shots_that_are_not_the_same(self):
        machine = Machine([[(0, "r", 1)], [(0, "l", 0)]])
        for first, later in ((0, 1), (1, 2), (0, 3), (0, 4999)):
            self.assertIs(takes_same(machine, ("same", first, later)), False)

    def test_only_the_state_differs(self):
        # To and fro through four states: behind two steps it stands as at first, but in another state.
        table = [[(0, "r", 1)], [(0, "l", 2)], [(0, "r", 3)], [(0, "l", 0)]]
        self.assertIs(takes_same(Machine(table), ("same", 0, 2)), False)
        self.assertIs(takes_same(Machine(table), ("same", 0, 4)), True)

    def test_only_the_place_differs(self):
        self.assertIs(takes_same(Machine(GOES_RIGHT), ("same", 0, 1)), False)
        self.assertIs(takes_same(Machine(GOES_RIGHT), ("same", 3, 9)), False)

    def test_only_a_mark_differs(self):
        # Its first mark stays, and is turned from 1 into 2 and back each time it is come by.
        table = [[(1, "r", 1), (2, "r", 1), (1, "r", 1)], [(0, "l", 0), None, None]]
        machine = Machine(table)
        walked = plain_walk(table, FIRST, 6)
        self.assertEqual((walked[2][:2], walked[4][:2]), ((0, 0), (0, 0)))
        self.assertIs(takes_same(machine, ("same", 2, 4)), False)
        self.assertIs(takes_same(machine, ("same", 0, 2)), False)
        self.assertIs(takes_same(machine, ("same", 2, 6)), True)

    def test_later_steps_that_are_not_done(self):
        for table, stop in ((STOPS_AT_ONCE, 0), (BEAVER_TWO, 5), (BEAVER_FOUR, 106)):
            machine = Machine(table)
            # Behind its stop the machine would stand as it did: no paper is taken for that.
            for first, later in ((stop, stop + 1), (stop, stop + 2), (stop + 1, stop + 2), (stop + 3, 5000), (0, 5000)):
                self.assertIs(takes_same(machine, ("same", first, later)), False)
                self.assertIs(takes_shifted(machine, ("shifted", first, later)), False)


class Shifted(unittest.TestCase):
    def assert_taken(self, table, first, later, taken):
        for turned in (table, mirrored_table(table)):
            with self.subTest(table=turned, first=first, later=later):
                self.assertIs(takes_shifted(Machine(turned), ("shifted", first, later)), taken)

    def test_papers_that_hold(self):
        for table in (GOES_RIGHT, WRITES_RIGHT, WRITES_LEFT):
            for first, later in ((0, 1), (0, 2), (1, 2), (7, 19), (0, 5000), (4999, 5000)):
                self.assert_taken(table, first, later, True)

    def test_states_that_differ(self):
        table = [[(0, "r", 1)], [(0, "r", 0)]]
        self.assert_taken(table, 0, 1, False)
        self.assert_taken(table, 1, 4, False)
        self.assert_taken(table, 0, 2, True)
        self.assert_taken(table, 1, 3, True)

    def test_the_same_place(self):
        table = [[(0, "r", 1)], [(0, "l", 0)]]
        self.assert_taken(table, 0, 2, False)
        self.assert_taken(table, 1, 3, False)
        self.assert_taken(TO_AND_FRO, 2, 4, False)

    def test_one_cell_differs_within(self):
        for table, first, later in WITHIN:
            walked = plain_walk(table, FIRST, later)
            unlike, low, high = differing(walked, first, later)
            self.assertEqual(walked[first][0], walked[later][0])
            self.assertGreater(walked[later][1], walked[first][1])
            self.assertEqual(len([at for at in unlike if at >= -low]), 1)
            self.assert_taken(table, first, later, False)
        for case, at in ((EDGE_DIFFERS, -1), (EDGE_DIFFERS_AT_TWO, -2), (OWN_CELL_DIFFERS, 0), (FAR_CELL_DIFFERS, 2)):
            table, first, later = case
            unlike, low, high = differing(plain_walk(table, FIRST, later), first, later)
            self.assertIn(at, unlike)

    def test_one_cell_differs_only_beyond(self):
        for table, first, later in BEYOND:
            walked = plain_walk(table, FIRST, later)
            unlike, low, high = differing(walked, first, later)
            self.assertEqual(unlike, [-low - 1])
            self.assertGreater(low, 0)
            self.assert_taken(table, first, later, True)

    def test_sweeps_are_not_shifted(self):
        # It goes to and fro, farther each time: never shifted, though its states come again.
        walked = plain_walk(SWEEPS, FIRST, 30)
        for first in range(30):
            for later in range(first + 1, 31):
                if plain_shifted(walked, first, later):
                    self.fail((first, later))
                self.assert_taken(SWEEPS, first, later, False)


OTHER_NUMBERS = (True, False, None, "0", "1", "", -1, -2, -5000, (), (1,), [], [1])


class WhatIsNoPaper(unittest.TestCase):
    def setUp(self):
        # The first takes ("same", 0, 2) and many more, the second ("shifted", 0, 1) and all others in order.
        self.rounds = Machine([[(0, "r", 1)], [(0, "l", 0)]])
        self.goes = Machine(GOES_RIGHT)

    def assert_not_taken(self, paper):
        for machine in (self.rounds, self.goes, Machine(BEAVER_TWO), Machine(STOPS_AT_ONCE)):
            words = repr(paper)
            with self.subTest(paper=paper):
                self.assertIs(takes_same(machine, paper), False)
                self.assertIs(takes_shifted(machine, paper), False)
                self.assertEqual(repr(paper), words)

    def test_what_is_just_right_is_taken(self):
        self.assertIs(takes_same(self.rounds, ("same", 0, 2)), True)
        self.assertIs(takes_shifted(self.goes, ("shifted", 0, 2)), True)
        self.assertIs(takes_shifted(self.goes, ("shifted", 0, 1)), True)

    def test_wrong_numbers(self):
        for kind in ("same", "shifted"):
            for wrong in OTHER_NUMBERS:
                for right in (0, 1, 2, 3):
                    self.assert_not_taken((kind, right, wrong))
                    self.assert_not_taken((kind, wrong, right))
                for other in OTHER_NUMBERS:
                    self.assert_not_taken((kind, wrong, other))

    def test_alike_or_turned_about(self):
        for kind in ("same", "shifted"):
            for first, later in ((0, 0), (1, 1), (2, 2), (2, 0), (1, 0), (3, 1), (4, 2), (5000, 0), (5000, 4998),
                                 (5000, 5000)):
                self.assert_not_taken((kind, first, later))

    def test_below_nought(self):
        for kind in ("same", "shifted"):
            for first, later in ((-1, 1), (-2, 0), (-2, 2), (-4, -2), (-1, 0), (-5000, 2)):
                self.assert_not_taken((kind, first, later))

    def test_too_many_or_too_few(self):
        for kind in ("same", "shifted"):
            for paper in ((kind,), (kind, 0), (kind, 2), (kind, 0, 2, 2), (kind, 0, 2, None), (kind, 0, 2, 4, 6),
                          (kind, (0, 2)), ((kind, 0, 2),), ()):
                self.assert_not_taken(paper)

    def test_a_list_or_what_is_no_tuple(self):
        for kind in ("same", "shifted"):
            for paper in ([kind, 0, 2], [(kind, 0, 2)], kind, kind + "02", [], None, True, False, 0, 2, "", "s02"):
                self.assert_not_taken(paper)

    def test_another_kind(self):
        for kind in ("", "Same", "SAME", "sam", "same ", "Shifted", "shift", "grow", "wall", None, True, 0, ("same",),
                     ["same"], ("shifted",), ["shifted"]):
            self.assert_not_taken((kind, 0, 2))
        self.assert_not_taken((0, 2, "same"))
        self.assert_not_taken(("grow", 0, (0, "r", (), ()), (("step",),)))
        self.assert_not_taken(("wall", 1, [(0,)], [(0,)], [((0,), 0, 0, (0,))]))

    def test_each_takes_its_own_kind_alone(self):
        self.assertIs(takes_same(self.rounds, ("shifted", 0, 2)), False)
        self.assertIs(takes_shifted(self.goes, ("same", 0, 2)), False)
        self.assertIs(takes_same(self.goes, ("shifted", 0, 2)), False)
        self.assertIs(takes_shifted(self.rounds, ("same", 0, 2)), False)


class WhereAPaperIsTaken(unittest.TestCase):
    MOST = 10
    ROUNDS = 12

    def test_the_machine_goes_on_as_it_says(self):
        for table in some_tables():
            machine = Machine(table)
            walked = plain_walk(table, FIRST, self.MOST * (self.ROUNDS + 1))
            for later in range(1, self.MOST + 1):
                for first in range(later):
                    if takes_same(machine, ("same", first, later)):
                        self.assert_goes_on(walked, first, later, 0)
                    if takes_shifted(machine, ("shifted", first, later)):
                        self.assert_goes_on(walked, first, later, walked[later][1] - walked[first][1])

    def assert_goes_on(self, walked, first, later, by):
        """Each so many steps the state comes again, and the place is shifted alike: it is far from having stopped."""
        self.assertEqual(len(walked), self.MOST * (self.ROUNDS + 1) + 1)
        for round_number in range(self.ROUNDS):
            for step in range(first, later):
                state, place, marks = walked[step]
                again = walked[step + round_number * (later - first)]
                self.assertEqual(again[:2], (state, place + round_number * by))
                self.assertEqual(dict(again[2]).get(again[1], 0), dict(marks).get(place, 0))
                if by == 0:
                    self.assertEqual(again[2], marks)


class WhatIsAsked(unittest.TestCase):
    def test_the_machine_stays_and_tells_the_same_again(self):
        for table in TABLES:
            machine = Machine(table)
            before = machine.table
            for paper in (("same", 2, 4), ("shifted", 0, 1), ("shifted", 1, 4)):
                for call in (takes_same, takes_shifted):
                    told = call(machine, paper)
                    self.assertIs(call(machine, paper), told)
            self.assertEqual(machine.table, before)


if __name__ == "__main__":
    unittest.main()
