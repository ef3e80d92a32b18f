import unittest

from plain import (
    BEAVER_FOUR, BEAVER_TWO, FAR, FIRST, GOES_RIGHT, STOPS_AT_ONCE, STOPS_AT_ONCE_OF_TWO, SWEEPS, SWEEPS_PAPER, TABLES,
    TAKEN, TO_AND_FRO, WRITES_RIGHT, as_tuples, copied, plain_same, plain_shifted, plain_walk,
)
from tapeproof.checker import takes
from tapeproof.growing import takes_grow
from tapeproof.machines import Machine
from tapeproof.rounds import takes_same, takes_shifted
from tapeproof.turns import machine_of
from tapeproof.walls import wall_of, wall_taken

BY_KIND = {"same": takes_same, "shifted": takes_shifted, "grow": takes_grow, "wall": wall_taken}

THINGS = (
    True, False, None, "", "l", "r", "0", "1", "one", "many", "step", "same", "shifted", "grow", "wall", "x" * 50,
    [], (), [0], (0,), [1], (1,), [[]], ((),), [()], ([],), (None,), [None], [True], (False,), (0, 0), [0, 0],
    ("step",), ["step"], (("step",),), ("one", 0), ["one", 0], (("one", 0),), [("many", (1,), 0)], (0, "r", (), ()),
    [0, "r", [], []], ("same", 0, 1), ["same", 0, 1], ((0,), 0, 0, (0,)), [((0,), 0, 0, (0,))], -1, -FAR,
)

NO_PAPERS = list(THINGS) + [
    0, 1, 2, 5, FAR, "same 0 1", "sam", ("same",), ("shifted",), ("grow",), ("wall",), ("", 0, 1), (0, 0, 1), (1, 0, 2),
    (None, 0, 4), (True, 0, 4), (("same",), 0, 4), (["same"], 0, 4), ("Same", 0, 4), ("round", 0, 1), ("SHIFTED", 0, 1),
    ("shift", 0, 1), ("same shifted", 0, 1), (0, 4, "same"), (("same", 0, 4),), [("same", 0, 4)], ("same", (0, 4)),
    ("walls", 1, [(0,)], [(0,)], [((0,), 0, 0, (0,))]), ("growing",) + SWEEPS_PAPER[1:],
]


def places_in(thing, path=()):
    """The ways to each thing within, its own first."""
    yield path
    if isinstance(thing, (list, tuple)):
        for at, inner in enumerate(thing):
            yield from places_in(inner, path + (at,))


def at_place(thing, path):
    for at in path:
        thing = thing[at]
    return thing


def replaced(thing, path, other):
    if not path:
        return other
    inner = replaced(thing[path[0]], path[1:], other)
    changed = list(thing[:path[0]]) + [inner] + list(thing[path[0] + 1:])
    return changed if isinstance(thing, list) else tuple(changed)


def may_be_a_list(paper, path):
    """Whether a list and a tuple are alike at this place: the lists of a shape, the moves and the lists of a wall."""
    if paper[0] == "grow":
        return path == (3,) or (len(path) == 2 and path[0] == 2)
    return paper[0] == "wall" and len(path) == 1


def is_alike(paper, path, old, thing):
    if isinstance(old, (list, tuple)) and isinstance(thing, (list, tuple)) and may_be_a_list(paper, path):
        return list(old) == list(thing)
    return type(old) is type(thing) and old == thing


class Takes(unittest.TestCase):
    def test_papers_of_each_kind(self):
        for table, paper in TAKEN:
            with self.subTest(table=table, paper=paper):
                self.assertIs(takes(Machine(table), paper), True)
                self.assertIs(takes(Machine(BEAVER_TWO), paper), False)
                self.assertIs(takes(Machine(STOPS_AT_ONCE), paper), False)
        self.assertEqual({paper[0] for table, paper in TAKEN}, set(BY_KIND))

    def test_as_its_kind(self):
        for table in [as_tuples(table) for table in TABLES] + [table for table, paper in TAKEN]:
            machine = Machine(table)
            for _, paper in TAKEN:
                self.assertIs(takes(machine, paper), BY_KIND[paper[0]](machine, paper))

    def test_rounds_against_plain_steps(self):
        for number in range(0, 6561, 53):
            machine = machine_of(2, 2, number)
            walked = plain_walk(machine.table, FIRST, 9)
            for later in range(10):
                for first in range(10):
                    self.assertIs(takes(machine, ("same", first, later)), plain_same(walked, first, later))
                    self.assertIs(takes(machine, ("shifted", first, later)), plain_shifted(walked, first, later))

    def test_walls_that_are_made(self):
        made = 0
        for number in range(0, 6561, 37):
            machine = machine_of(2, 2, number)
            paper = wall_of(machine, 2, 200)
            if paper is not None:
                self.assertIs(takes(machine, paper), True)
                made += 1
        self.assertGreater(made, 50)

    def test_nothing_for_a_machine_that_stops(self):
        for table in (STOPS_AT_ONCE, STOPS_AT_ONCE_OF_TWO, BEAVER_TWO, BEAVER_FOUR):
            for _, paper in TAKEN:
                self.assertIs(takes(Machine(table), paper), False)


class Kinds(unittest.TestCase):
    def test_each_takes_its_own_kind_alone(self):
        for table, paper in TAKEN:
            for kind, call in BY_KIND.items():
                with self.subTest(table=table, paper=paper, kind=kind):
                    self.assertIs(call(Machine(table), paper), kind == paper[0])

    def test_the_word_of_another_kind(self):
        for table, paper in TAKEN:
            for kind in BY_KIND:
                other = (kind,) + paper[1:]
                if {kind, paper[0]} == {"same", "shifted"} or kind == paper[0]:
                    continue
                self.assertIs(takes(Machine(table), other), False)


class WhatIsNoPaper(unittest.TestCase):
    def assert_not_taken(self, table, paper):
        before = repr(paper)
        for call in (takes, takes_same, takes_shifted, takes_grow, wall_taken):
            with self.subTest(table=table, paper=paper, call=call):
                self.assertIs(call(Machine(table), paper), False)
        self.assertEqual(repr(paper), before)

    def test_things_of_all_kinds(self):
        for table in (GOES_RIGHT, SWEEPS, TO_AND_FRO, WRITES_RIGHT, STOPS_AT_ONCE):
            for thing in NO_PAPERS:
                self.assert_not_taken(table, thing)

    def test_a_list_in_the_place_of_the_tuple(self):
        for table, paper in TAKEN:
            self.assert_not_taken(table, list(paper))
            self.assert_not_taken(table, (paper,))
            self.assert_not_taken(table, [paper])

    def test_a_thing_too_many_or_too_few(self):
        for table, paper in TAKEN:
            for few in range(len(paper)):
                self.assert_not_taken(table, paper[:few])
                self.assert_not_taken(table, paper[:few] + paper[few + 1:])
            for thing in THINGS + (0, 1, 2, 9):
                self.assert_not_taken(table, paper + (thing,))
                self.assert_not_taken(table, paper[:1] + (thing,) + paper[1:])

    def test_other_things_in_each_place(self):
        tried = 0
        for table, paper in TAKEN:
            for path in places_in(paper):
                old = at_place(paper, path)
                for thing in THINGS:
                    # A blank more behind a walk over blanks makes another paper that holds.
                    if not is_alike(paper, path, old, thing) and (old, thing) != ((), (("one", 0),)):
                        self.assert_not_taken(table, replaced(paper, path, thing))
                        tried += 1
        self.assertGreater(tried, 4000)

    def test_lists_and_tuples_exchanged(self):
        for table, paper in TAKEN:
            for path in places_in(paper):
                old = at_place(paper, path)
                if isinstance(old, (list, tuple)):
                    other = replaced(paper, path, tuple(old) if isinstance(old, list) else list(old))
                    with self.subTest(table=table, paper=other):
                        self.assertIs(takes(Machine(table), other), may_be_a_list(paper, path))

    def test_true_and_false_for_just_the_numbers_that_they_are_like(self):
        tried = 0
        for table, paper in TAKEN:
            for path in places_in(paper):
                old = at_place(paper, path)
                if old in (0, 1) and not isinstance(old, bool):
                    self.assert_not_taken(table, replaced(paper, path, old == 1))
                    tried += 1
        self.assertGreater(tried, 60)


class WhatIsAsked(unittest.TestCase):
    def test_all_stays(self):
        for table, paper in TAKEN:
            machine = Machine(table)
            before = copied(paper)
            for _ in range(2):
                self.assertIs(takes(machine, paper), True)
                self.assertEqual(repr(paper), repr(before))
                self.assertEqual(machine.table, as_tuples(table))


if __name__ == "__main__":
    unittest.main()
