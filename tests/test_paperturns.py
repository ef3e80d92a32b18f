import unittest

from plain import (
    FAR, TABLES, TAKEN, all_rounds, assert_refused, copied, idle_pairs, many_tables, mirrored_move, mirrored_shape,
    mirrored_table, plain_moved, plain_wall, spread_names, staying_table, with_lists, with_tuples,
)
from tapeproof.checker import takes
from tapeproof.errors import NoNames
from tapeproof.machines import Machine
from tapeproof.makers import same_of, shifted_of
from tapeproof.paperturns import paper_mirrored, paper_renamed
from tapeproof.shapes import laid_out
from tapeproof.turns import machine_of, mirrored, renamed


def tables_of_rounds():
    tables = [machine_of(2, 2, number).table for number in range(40, 6561, 211)]
    tables += [machine_of(3, 1, number).table for number in range(100, 343)]
    return tables + many_tables() + [staying_table(seed, 3, 3) for seed in range(8)]


def papers_of_rounds():
    """Each with a table that takes it."""
    for table in tables_of_rounds():
        for maker in (same_of, shifted_of):
            paper = maker(Machine(table), 40)
            if paper is not None:
                yield table, paper
                yield table, (paper[0], paper[1] + 3, 2 * paper[2] - paper[1] + 3)


def papers_of_growing():
    for at, (table, start, shape, moves) in enumerate(all_rounds()):
        given = (with_tuples(shape), with_lists(shape), shape[:2] + (list(shape[2]), tuple(shape[3])))[at % 3]
        yield table, ("grow", start, given, (tuple, list)[at % 2](moves))


def papers_with_idle_moves():
    """Moves that go there and back stand between the moves of a round, so that all of them are there on both sides."""
    for table, start, shape, moves in list(all_rounds())[::11]:
        here = with_tuples(shape)
        for at, move in enumerate(moves):
            for idle in idle_pairs(table, here):
                yield table, ("grow", start, shape, moves[:at] + idle + moves[at:])
            here = plain_moved(table, here, move)


def other_entries(table):
    """The table with one entry less, and with that entry going another way."""
    for state, row in enumerate(table):
        for sign, entry in enumerate(row):
            others = [None, (0, "l", 0)] + ([] if entry is None else [(entry[0], "rl"["lr".index(entry[1])], entry[2])])
            for other in others:
                changed = [list(cells) for cells in table]
                changed[state][sign] = other
                yield changed


def papers_of_walls():
    tables = [machine_of(2, 2, number).table for number in range(0, 6561, 307)] + many_tables()
    for at, table in enumerate(tables):
        for width in (1, 2, 3):
            paper = plain_wall(table, width, 60)
            if paper is not None:
                yield table, paper
                # Things in another order, twice, and as tuples.
                yield table, paper[:2] + tuple(tuple(things[::-1] + things[:at % 3]) for things in paper[2:])


ROUNDS_TAKEN = list(papers_of_rounds())
GROWING_TAKEN = list(papers_of_growing())
IDLE_TAKEN = list(papers_with_idle_moves())
WALLS_TAKEN = list(papers_of_walls())
ALL_TAKEN = TAKEN + ROUNDS_TAKEN + GROWING_TAKEN + IDLE_TAKEN + WALLS_TAKEN
SOME_TAKEN = TAKEN + ROUNDS_TAKEN[::3] + GROWING_TAKEN[::7] + IDLE_TAKEN[::9] + WALLS_TAKEN[::3]


def names_for(table, seed):
    return spread_names(seed, len(table)), spread_names(seed + 1000, len(table[0]))


def there_and_back(names):
    return [names.index(name) for name in range(len(names))]


def turned_shot(shot, states, signs):
    return (states[shot[0]], shot[1], tuple((place, signs[sign]) for place, sign in shot[2]))


def mirrored_shot(shot):
    """As seen in a mirror that stands between the places -1 and 0, where the shape's two lists meet."""
    return (shot[0], -1 - shot[1], tuple((-1 - place, sign) for place, sign in reversed(shot[2])))


class Samples(unittest.TestCase):
    def test_the_papers_are_taken(self):
        for table, paper in ALL_TAKEN:
            self.assertIs(takes(Machine(table), paper), True)
        kinds = [paper[0] for table, paper in ALL_TAKEN]
        for kind in ("same", "shifted", "grow", "wall"):
            self.assertGreater(kinds.count(kind), 40, kind)

    def test_each_move_is_there_on_both_sides(self):
        told = set()
        for table, paper in IDLE_TAKEN + GROWING_TAKEN[::5]:
            here = with_tuples(paper[2])
            for move in paper[3]:
                told.add((move[0], here[1] if len(move) == 1 else move[1]))
                here = plain_moved(table, here, move)
        words = ("step", "over", "open", "join", "draw", "roll", "back", "trim", "pad")
        self.assertEqual(told, {(word, side) for word in words for side in "lr"})


class Mirrored(unittest.TestCase):
    def test_the_mirrored_machine_takes_it(self):
        for table, paper in ALL_TAKEN:
            with self.subTest(table=table, paper=paper):
                self.assertIs(takes(mirrored(Machine(table)), paper_mirrored(paper)), True)
                self.assertIs(takes(Machine(mirrored_table(table)), paper_mirrored(paper)), True)

    def test_just_where_the_machine_takes_it(self):
        tried = {True: 0, False: 0}
        for table, paper in SOME_TAKEN:
            turned = paper_mirrored(paper)
            for other in [table, mirrored_table(table)] + list(other_entries(table))[:40] + TABLES:
                expected = takes(Machine(other), paper)
                self.assertIs(takes(mirrored(Machine(other)), turned), expected)
                tried[expected] += 1
        self.assertGreater(min(tried.values()), 1000)

    def test_twice_it_is_taken_by_the_machine_itself(self):
        for table, paper in ALL_TAKEN:
            self.assertIs(takes(Machine(table), paper_mirrored(paper_mirrored(paper))), True)

    def test_by_hand(self):
        self.assertEqual(paper_mirrored(("same", 3, 15)), ("same", 3, 15))
        self.assertEqual(paper_mirrored(("shifted", 1, 3)), ("shifted", 1, 3))
        turned = paper_mirrored(("grow", 4, (1, "r", [("one", 2)], [("many", (1, 2, 3), 5), ("one", 3)]), [
            ("step",), ("over",), ("open",), ("join", "l", 3), ("draw", "r", 4), ("roll", "l", 5), ("back", "r", 6),
            ("trim", "l"), ("pad", "r"),
        ]))
        self.assertEqual(turned[:2], ("grow", 4))
        self.assertEqual(with_tuples(turned[2]), (1, "l", (("one", 3), ("many", (3, 2, 1), 5)), (("one", 2),)))
        self.assertEqual(tuple(turned[3]), (
            ("step",), ("over",), ("open",), ("join", "r", 3), ("draw", "l", 4), ("roll", "r", 5), ("back", "l", 6),
            ("trim", "r"), ("pad", "l"),
        ))
        turned = paper_mirrored(("wall", 2, [(0, 0), (1, 0)], ((0, 0), (1, 2)), [((1, 0), 3, 4, (1, 2))]))
        self.assertEqual(turned[:2], ("wall", 2))
        self.assertEqual([sorted(things) for things in turned[2:]], [
            [(0, 0), (1, 2)], [(0, 0), (1, 0)], [((1, 2), 3, 4, (1, 0))],
        ])

    def test_the_shape_is_laid_out_mirrored(self):
        for table, paper in GROWING_TAKEN + IDLE_TAKEN[::5]:
            turned = paper_mirrored(paper)
            for count in range(4):
                expected = mirrored_shot(laid_out(paper[2], count))
                self.assertEqual(laid_out(turned[2], count), expected)

    def test_as_mirrored_plainly(self):
        for table, paper in GROWING_TAKEN:
            turned = paper_mirrored(paper)
            self.assertEqual(with_tuples(turned[2]), mirrored_shape(with_tuples(paper[2])))
            self.assertEqual(list(turned[3]), [mirrored_move(move) for move in paper[3]])


class Renamed(unittest.TestCase):
    def test_the_renamed_machine_takes_it(self):
        for at, (table, paper) in enumerate(ALL_TAKEN):
            for seed in range(at, at + 4):
                states, signs = names_for(table, seed)
                with self.subTest(table=table, paper=paper, states=states, signs=signs):
                    turned = paper_renamed(paper, states, signs)
                    self.assertIs(takes(renamed(Machine(table), states, signs), turned), True)

    def test_tuples_of_names(self):
        for table, paper in SOME_TAKEN:
            states, signs = names_for(table, 5)
            turned = paper_renamed(paper, tuple(states), tuple(signs))
            self.assertEqual(turned, paper_renamed(paper, states, signs))
            self.assertIs(takes(renamed(Machine(table), states, signs), turned), True)

    def test_just_where_the_machine_takes_it(self):
        tried = {True: 0, False: 0}
        for at, (table, paper) in enumerate(SOME_TAKEN):
            states, signs = names_for(table, at)
            turned = paper_renamed(paper, states, signs)
            others = [table, mirrored_table(table)] + list(other_entries(table))[:40]
            others += [other for other in TABLES if (len(other), len(other[0])) == (len(table), len(table[0]))]
            others.append([list(row) for row in renamed(Machine(table), states, signs).table])
            for other in others:
                expected = takes(Machine(other), paper)
                self.assertIs(takes(renamed(Machine(other), states, signs), turned), expected)
                tried[expected] += 1
        self.assertGreater(min(tried.values()), 1000)

    def test_there_and_back_it_is_taken_by_the_machine_itself(self):
        for at, (table, paper) in enumerate(ALL_TAKEN):
            states, signs = names_for(table, at)
            turned = paper_renamed(paper, states, signs)
            again = paper_renamed(turned, there_and_back(states), there_and_back(signs))
            self.assertIs(takes(Machine(table), again), True)

    def test_names_that_leave_all_at_its_place(self):
        for table, paper in ALL_TAKEN:
            same = paper_renamed(paper, list(range(len(table))), list(range(len(table[0]))))
            self.assertIs(takes(Machine(table), same), True)

    def test_by_hand(self):
        states = [0, 2, 3, 1]
        signs = [0, 4, 1, 2, 3]
        self.assertEqual(paper_renamed(("same", 3, 15), states, signs), ("same", 3, 15))
        self.assertEqual(paper_renamed(("shifted", 1, 3), states, signs), ("shifted", 1, 3))
        moves = [("step",), ("over",), ("open",), ("join", "l", 3), ("back", "r", 1), ("trim", "l"), ("pad", "r")]
        shape = (1, "r", [("one", 2)], [("many", (1, 2, 3, 0), 4), ("one", 0)])
        turned = paper_renamed(("grow", 4, shape, moves), states, signs)
        self.assertEqual(turned[:2], ("grow", 4))
        self.assertEqual(with_tuples(turned[2]), (2, "r", (("one", 1),), (("many", (4, 1, 2, 0), 4), ("one", 0))))
        self.assertEqual(list(turned[3]), moves)
        turned = paper_renamed(("wall", 2, [(0, 0), (1, 0)], ((0, 0), (1, 2)), [((1, 0), 3, 4, (1, 2))]), states, signs)
        self.assertEqual(turned[:2], ("wall", 2))
        self.assertEqual([sorted(things) for things in turned[2:]], [
            [(0, 0), (4, 0)], [(0, 0), (4, 1)], [((4, 0), 1, 3, (4, 1))],
        ])

    def test_the_shape_is_laid_out_renamed(self):
        for at, (table, paper) in enumerate(GROWING_TAKEN + IDLE_TAKEN[::5]):
            states, signs = names_for(table, at)
            turned = paper_renamed(paper, states, signs)
            for count in range(4):
                expected = turned_shot(laid_out(paper[2], count), states, signs)
                self.assertEqual(laid_out(turned[2], count), expected)

    def test_names_of_more_than_the_paper_speaks_of(self):
        # A machine may have states and signs of which its paper tells nothing.
        table = [[(0, "r", 0), None, None]] + [[None, (1, "l", 2), (2, "r", 1)]] * 2
        for paper in (
            ("shifted", 0, 1), ("grow", 1, (0, "r", (), ()), (("step",), ("trim", "l"))),
            ("wall", 1, [(0,)], [(0,)], [((0,), 0, 0, (0,))]),
        ):
            for states in ([0, 1, 2], [0, 2, 1]):
                for signs in ([0, 1, 2], [0, 2, 1]):
                    turned = paper_renamed(paper, states, signs)
                    self.assertIs(takes(renamed(Machine(table), states, signs), turned), True)


class BothTurns(unittest.TestCase):
    def test_one_behind_the_other(self):
        for at, (table, paper) in enumerate(SOME_TAKEN):
            states, signs = names_for(table, at)
            machine = renamed(mirrored(Machine(table)), states, signs)
            self.assertIs(takes(machine, paper_renamed(paper_mirrored(paper), states, signs)), True)
            self.assertIs(takes(machine, paper_mirrored(paper_renamed(paper, states, signs))), True)

    def test_the_kind_and_the_numbers_of_steps_stay(self):
        for at, (table, paper) in enumerate(ALL_TAKEN):
            states, signs = names_for(table, at)
            for turned in (paper_mirrored(paper), paper_renamed(paper, states, signs)):
                self.assertIs(type(turned), tuple)
                self.assertEqual(len(turned), len(paper))
                # The width of a wall stays too.
                self.assertEqual(turned[:2], paper[:2])
                if paper[0] in ("same", "shifted"):
                    self.assertEqual(turned, paper)
                if paper[0] == "wall":
                    self.assertEqual(len(set(turned[4])), len(set(paper[4])))


WRONG_NAMES = [
    [], (), [1], [0, 0], [0, 1, 1], [0, 2], [0, 1, 3], [1, 0], [1, 2, 0], [2, 1, 0], [0, -1], [-1, 0], [0, 1, -2],
    [0, True], [False, 1], [False], [0, True, 2], [False, True], [0, 1, FAR], [0, None], [None], ["0"], [0, "1"],
    [(0,)], [0, [1]], [0, 1, 2, 4], [0, 2, 3, 4], (1, 0), (0, 0, 1), (0, True),
]


class Refusals(unittest.TestCase):
    PAPERS = TAKEN + GROWING_TAKEN[::150] + WALLS_TAKEN[::40]

    def test_names_that_are_none(self):
        for table, paper in self.PAPERS:
            states, signs = names_for(table, 1)
            for wrong in WRONG_NAMES:
                with self.subTest(paper=paper, wrong=wrong):
                    assert_refused(self, NoNames, paper_renamed, paper, wrong, signs)
                    assert_refused(self, NoNames, paper_renamed, paper, states, wrong)
                    assert_refused(self, NoNames, paper_renamed, paper, wrong, wrong)

    def test_names_of_that_length(self):
        for table, paper in self.PAPERS:
            names = names_for(table, 1)
            for which, given in enumerate(names):
                for at in range(len(given)):
                    for wrong in (-1, len(given), given[at - 1] if len(given) > 1 else 1, given[at] == 1, None):
                        changed = [list(names[0]), list(names[1])]
                        changed[which][at] = wrong
                        assert_refused(self, NoNames, paper_renamed, paper, *changed)

    def test_fewer_names_than_the_paper_speaks_of(self):
        grow = ("grow", 0, (2, "r", [("one", 3)], [("many", (1, 4), 0)]), [("step",)])
        wall = ("wall", 1, [(0,), (5,)], [(0,), (6,)], [((0,), 0, 0, (0,)), ((3,), 2, 4, (2,))])
        for paper, states, signs in ((grow, 3, 5), (wall, 3, 7)):
            paper_renamed(paper, list(range(states)), list(range(signs)))
            for fewer in range(1, states):
                assert_refused(self, NoNames, paper_renamed, paper, list(range(fewer)), list(range(signs)))
            for fewer in range(1, signs):
                assert_refused(self, NoNames, paper_renamed, paper, list(range(states)), list(range(fewer)))


def emptied(paper):
    """Changes each list within."""
    for thing in paper:
        if isinstance(thing, list):
            thing.append(("step",))
            thing.reverse()
        elif isinstance(thing, tuple):
            emptied(thing)


class WhatIsHandedIn(unittest.TestCase):
    def test_stays_as_it_was(self):
        for at, (table, paper) in enumerate(ALL_TAKEN):
            before = repr(paper)
            states, signs = names_for(table, at)
            names = repr((states, signs))
            paper_mirrored(paper)
            paper_renamed(paper, states, signs)
            self.assertEqual(repr(paper), before)
            self.assertEqual(repr((states, signs)), names)

    def test_changed_behind_it_changes_nothing(self):
        for at, (table, paper) in enumerate(SOME_TAKEN):
            given = copied(paper)
            states, signs = names_for(table, at)
            told = [paper_mirrored(given), paper_renamed(given, states, signs)]
            before = copied(told)
            emptied(given)
            states.reverse()
            signs.clear()
            self.assertEqual(told, before)

    def test_what_is_told_changed_is_told_again(self):
        for at, (table, paper) in enumerate(SOME_TAKEN):
            given = copied(paper)
            names = names_for(table, at)
            before = [copied(paper_mirrored(given)), copied(paper_renamed(given, *names))]
            emptied(paper_mirrored(given))
            emptied(paper_renamed(given, *names))
            self.assertEqual([paper_mirrored(given), paper_renamed(given, *names)], before)
            self.assertEqual(given, paper)


if __name__ == "__main__":
    unittest.main()
