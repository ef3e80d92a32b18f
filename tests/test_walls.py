import unittest
from itertools import product

from plain import (
    BEAVER_THREE, BEAVER_TWO, COUNTS, FAR, FIRST, GOES_RIGHT, STOPS_AT_ONCE, SWEEPS, SWEEPS_PAPER, TABLES, TO_AND_FRO,
    WRITES_LEFT, WRITES_RIGHT, Spread, as_tuples, asked_by, assert_refused, copied, many_tables, mirrored_table,
    plain_walk, plain_wall, spread_table, staying_table,
)
from tapeproof.errors import NoWidth
from tapeproof.machines import Machine
from tapeproof.turns import machine_of
from tapeproof.walls import wall_of, wall_taken

FAR_MOST = 3000


def plain_taken(table, paper):
    """For papers whose things are all of the kinds told."""
    _, width, lefts, rights, contexts = paper
    blanks = (0,) * width
    if blanks not in lefts or blanks not in rights or (blanks, 0, 0, blanks) not in contexts:
        return False
    for context in contexts:
        asked = asked_by(table, lefts, rights, context)
        if asked is None:
            return False
        for things, had in zip(asked, (lefts, rights, contexts)):
            if any(thing not in had for thing in things):
                return False
    return True


def some_tables():
    tables = [machine_of(1, 2, number).table for number in range(25)]
    tables += [machine_of(2, 2, number).table for number in range(0, 6561, 61)]
    tables += [machine_of(3, 2, number).table for number in range(777777, 13 ** 6, 99999)]
    tables += [table for table in many_tables() if len(table) * len(table[0]) <= 9]
    tables += [staying_table(seed, 2, 3) for seed in range(10)]
    return tables


def gathered():
    """Tables with their least walls of widths one to three that are not too large."""
    for table in some_tables():
        for width in (1, 2, 3):
            paper = plain_wall(table, width, 120)
            if paper is not None:
                yield table, paper


GATHERED = list(gathered())


def going_on(spread, states, signs):
    return (spread.below(signs), "lr"[spread.below(2)], spread.below(states))


class WallOf(unittest.TestCase):
    def assert_wall(self, table, width, most, expected):
        with self.subTest(table=table, width=width, most=most):
            told = wall_of(Machine(table), width, most)
            self.assertEqual(told, expected)
            self.assertEqual(repr(told), repr(expected))

    def test_by_hand(self):
        self.assert_wall(GOES_RIGHT, 1, 1, ("wall", 1, [(0,)], [(0,)], [((0,), 0, 0, (0,))]))
        self.assert_wall(GOES_RIGHT, 2, 1, ("wall", 2, [(0, 0)], [(0, 0)], [((0, 0), 0, 0, (0, 0))]))
        self.assert_wall(WRITES_RIGHT, 1, 9, (
            "wall", 1, [(0,), (1,)], [(0,)], [((0,), 0, 0, (0,)), ((1,), 0, 0, (0,))],
        ))
        self.assert_wall(WRITES_RIGHT, 2, 9, (
            "wall", 2, [(0, 0), (1, 0), (1, 1)], [(0, 0)],
            [((0, 0), 0, 0, (0, 0)), ((1, 0), 0, 0, (0, 0)), ((1, 1), 0, 0, (0, 0))],
        ))
        self.assert_wall(mirrored_table(WRITES_RIGHT), 2, 9, (
            "wall", 2, [(0, 0)], [(0, 0), (1, 0), (1, 1)],
            [((0, 0), 0, 0, (0, 0)), ((0, 0), 0, 0, (1, 0)), ((0, 0), 0, 0, (1, 1))],
        ))
        self.assert_wall(STOPS_AT_ONCE, 1, 9, None)
        self.assert_wall(BEAVER_TWO, 1, 9, None)

    def test_the_least_wall(self):
        made = {1: 0, 2: 0, 3: 0}
        none = 0
        for table in some_tables():
            for width in (1, 2, 3):
                expected = plain_wall(table, width, 120)
                self.assert_wall(table, width, 120, expected)
                made[width] += expected is not None
                none += expected is None
        self.assertGreater(min(made.values()), 60)
        self.assertGreater(none, 100)

    def test_just_as_many_contexts_as_most(self):
        for table, paper in GATHERED:
            many = len(paper[4])
            for most in (many, many + 1, many + 100, FAR):
                self.assert_wall(table, paper[1], most, paper)
            for most in (many - 1, many // 2, 1 if many > 1 else 0, 0, -1, -many, -FAR):
                self.assert_wall(table, paper[1], most, None)

    def test_a_most_of_nought_and_below(self):
        for table in TABLES:
            for width in (1, 2, 3):
                for most in (0, -1, -5, -FAR):
                    self.assert_wall(table, width, most, None)

    def test_none_where_a_context_without_an_entry_is_asked_for(self):
        none = 0
        for table, paper in GATHERED:
            if len(paper[4]) > 40:
                continue
            for state, sign in {context[1:3] for context in paper[4]}:
                stopped = [list(row) for row in table]
                stopped[state][sign] = None
                self.assert_wall(stopped, paper[1], FAR_MOST, None)
                none += 1
        self.assertGreater(none, 300)

    def test_an_entry_that_is_not_asked_for_may_be_none(self):
        for table, paper in GATHERED:
            asked = {context[1:3] for context in paper[4]}
            stopped = [
                [entry if (state, sign) in asked else None for sign, entry in enumerate(row)]
                for state, row in enumerate(table)
            ]
            self.assert_wall(stopped, paper[1], 120, paper)

    def test_the_kinds(self):
        for table, paper in GATHERED[::5]:
            told = wall_of(Machine(table), paper[1], FAR_MOST)
            self.assertIs(type(told), tuple)
            self.assertEqual([type(thing) for thing in told], [str, int, list, list, list])
            for things in told[2:]:
                self.assertTrue(all(type(thing) is tuple for thing in things))
                self.assertEqual(things, sorted(set(things)))

    def test_is_taken(self):
        for table, paper in GATHERED:
            told = wall_of(Machine(table), paper[1], FAR_MOST)
            self.assertIs(wall_taken(Machine(table), told), True)

    def test_no_thing_can_be_left_out(self):
        for table, paper in GATHERED[::3]:
            if len(paper[4]) <= 30:
                for at in (2, 3, 4):
                    for number in range(len(paper[at])):
                        less = paper[:at] + (paper[at][:number] + paper[at][number + 1:],) + paper[at + 1:]
                        self.assertIs(wall_taken(Machine(table), less), False)

    def test_mirrored(self):
        for table, paper in GATHERED[::2]:
            kind, width, lefts, rights, contexts = paper
            turned = sorted((right, state, sign, left) for left, state, sign, right in contexts)
            self.assert_wall(mirrored_table(table), width, FAR_MOST, (kind, width, rights, lefts, turned))

    def test_great_walls(self):
        for seed, states, signs, width in ((21, 12, 3, 3), (14, 4, 4, 2), (27, 12, 3, 3)):
            spread = Spread(seed)
            table = [[going_on(spread, states, signs) for _ in range(signs)] for _ in range(states)]
            paper = plain_wall(table, width, 4000)
            self.assertGreater(len(paper[4]), 1500)
            self.assert_wall(table, width, len(paper[4]), paper)
            self.assert_wall(table, width, len(paper[4]) - 1, None)
            self.assertIs(wall_taken(Machine(table), paper), True)
            less = paper[:4] + (paper[4][:-1],)
            self.assertIs(wall_taken(Machine(table), less), False)
        self.assert_wall(COUNTS, 3, 3000, plain_wall(COUNTS, 3, 3000))
        self.assertIsNone(wall_of(Machine(spread_table(5, 12, 8)), 3, 3000))

    def test_no_width(self):
        for table in TABLES:
            for width in (0, -1, -2, -FAR):
                for most in (-1, 0, 1, 200, FAR):
                    assert_refused(self, NoWidth, wall_of, Machine(table), width, most)


class WallTaken(unittest.TestCase):
    def assert_taken(self, table, paper, taken):
        before = copied(paper)
        with self.subTest(table=table, paper=paper):
            self.assertIs(wall_taken(Machine(table), paper), taken)
            self.assertEqual(repr(paper), repr(before))

    def test_walls_that_hold(self):
        for table, paper in GATHERED:
            self.assert_taken(table, paper, True)
            self.assert_taken(table, paper[:2] + tuple(tuple(things) for things in paper[2:]), True)
            self.assert_taken(table, paper[:2] + (tuple(paper[2]), paper[3], tuple(paper[4])), True)

    def test_in_another_order_and_with_things_twice(self):
        for table, paper in GATHERED[::2]:
            self.assert_taken(table, paper[:2] + tuple(things[::-1] for things in paper[2:]), True)
            self.assert_taken(table, paper[:2] + tuple(things + things[:2] for things in paper[2:]), True)
            self.assert_taken(table, paper[:2] + tuple(tuple(things) * 2 for things in paper[2:]), True)

    def test_with_more_than_is_needed(self):
        # This machine goes on wherever it is: all grams and all contexts hold too.
        table = [[(1, "r", 1), (0, "l", 0)], [(0, "l", 1), (1, "r", 0)]]
        signs = [(0,), (1,)]
        contexts = list(product(signs, (0, 1), (0, 1), signs))
        self.assert_taken(table, ("wall", 1, signs, signs, contexts), True)
        self.assert_taken(table, ("wall", 1, signs, signs, contexts[1:]), False)
        # A context that is never met, but asks for nothing more than is there.
        more = ((1,), 0, 0, (0,))
        paper = ("wall", 1, [(0,)], [(0,)], [((0,), 0, 0, (0,))])
        self.assert_taken(GOES_RIGHT, paper, True)
        table = [[(0, "r", 0), None]]
        self.assert_taken(table, paper, True)
        self.assert_taken(table, ("wall", 1, [(0,), (1,)], [(0,)], paper[4] + [more]), True)
        self.assert_taken(table, ("wall", 1, [(0,)], [(0,)], paper[4] + [more]), False)
        self.assert_taken(table, ("wall", 1, [(0,), (1,)], [(0,)], paper[4]), True)

    def test_more_and_less_against_the_plain_check(self):
        spread = Spread(11)
        taken = {True: 0, False: 0}
        for table, paper in GATHERED * 4:
            signs = len(table[0])
            lists = [list(things) for things in paper[2:]]
            for _ in range(1 + spread.below(3)):
                at = spread.below(3)
                gram = tuple(spread.below(signs) for _ in range(paper[1]))
                other = tuple(spread.below(signs) for _ in range(paper[1]))
                more = gram if at < 2 else (gram, spread.below(len(table)), spread.below(signs), other)
                if spread.below(3):
                    lists[at].append(more)
                elif lists[at]:
                    lists[at].pop(spread.below(len(lists[at])))
            changed = paper[:2] + tuple(lists)
            expected = plain_taken(table, changed)
            self.assert_taken(table, changed, expected)
            taken[expected] += 1
        self.assertGreater(min(taken.values()), 60)

    def test_the_blanks_left_out(self):
        for table, paper in GATHERED:
            blanks = (0,) * paper[1]
            for at, thing in ((2, blanks), (3, blanks), (4, (blanks, 0, 0, blanks))):
                less = [other for other in paper[at] if other != thing]
                self.assert_taken(table, paper[:at] + (less,) + paper[at + 1:], False)
                self.assert_taken(table, paper[:at] + ([],) + paper[at + 1:], False)
                self.assert_taken(table, paper[:at] + ((),) + paper[at + 1:], False)

    def test_the_blanks_left_out_where_nothing_asks_for_them(self):
        # A step to the left never asks for a gram of lefts to be there: the blanks alone are missing.
        paper = ("wall", 1, [(0,)], [(0,)], [((0,), 0, 0, (0,))])
        self.assert_taken(mirrored_table(GOES_RIGHT), paper, True)
        self.assert_taken(mirrored_table(GOES_RIGHT), paper[:2] + ([],) + paper[3:], False)
        self.assert_taken(GOES_RIGHT, paper[:3] + ([],) + paper[4:], False)
        self.assert_taken(GOES_RIGHT, paper[:4] + ([],), False)
        table = [[(1, "r", 1), None], [(1, "r", 1), (1, "r", 1)]]
        other = ("wall", 1, [(0,), (1,)], [(0,)], [((0,), 0, 0, (0,)), ((1,), 1, 0, (0,))])
        self.assert_taken(table, other, True)
        # In state 1 alone all would hold, but it begins in state 0.
        self.assert_taken(table, other[:4] + (other[4][1:],), False)

    def test_a_thing_left_out_that_is_asked_for_both_ways(self):
        for turn in (as_tuples, mirrored_table):
            table = turn(WRITES_RIGHT)
            paper = wall_of(Machine(table), 2, 10)
            for at in (2, 3, 4):
                for number in range(len(paper[at])):
                    less = paper[:at] + (paper[at][:number] + paper[at][number + 1:],) + paper[at + 1:]
                    self.assert_taken(table, less, False)

    def test_a_context_whose_entry_is_none(self):
        for table, paper in GATHERED[::3]:
            if len(paper[4]) > 40:
                continue
            for state, sign in {context[1:3] for context in paper[4]}:
                stopped = [list(row) for row in table]
                stopped[state][sign] = None
                self.assert_taken(stopped, paper, False)
        # The entry is that of a context that nothing asks for: it fails all the same.
        paper = ("wall", 1, [(0,)], [(0,)], [((0,), 0, 0, (0,)), ((0,), 0, 1, (0,))])
        self.assert_taken([[(0, "r", 0), None]], paper, False)

    def test_wrong_widths(self):
        for table, paper in GATHERED[::7]:
            for width in (0, -1, -FAR, paper[1] - 1, paper[1] + 1, FAR, None, True, False, "1", "", (1,), [1], ()):
                if width is True or width != paper[1]:
                    self.assert_taken(table, ("wall", width) + paper[2:], False)
        # With a width of nought the gram of blanks is the empty one.
        nought = ("wall", 0, [()], [()], [((), 0, 0, ())])
        self.assert_taken(GOES_RIGHT, nought, False)
        self.assert_taken(SWEEPS, ("wall", 0, [()], [()], list(product([()], (0, 1), (0, 1), [()]))), False)
        paper = ("wall", 1, [(0,)], [(0,)], [((0,), 0, 0, (0,))])
        self.assert_taken(GOES_RIGHT, paper, True)
        self.assert_taken(GOES_RIGHT, ("wall", True) + paper[2:], False)
        self.assert_taken(GOES_RIGHT, ("wall", FAR, [], [], []), False)

    def wrong_grams(self, width, signs):
        right = (0,) * width
        wrongs = [right[1:], right + (0,), (), list(right), None, True, False, 0, 1, "0" * width, "", [], (right,)]
        for wrong in (signs, signs + 1, -1, FAR, True, False, None, "0", (0,), [0], ()):
            wrongs += [right[1:] + (wrong,), (wrong,) + right[1:]]
        return wrongs

    def test_wrong_grams(self):
        for table, paper in GATHERED[::9]:
            for wrong in self.wrong_grams(paper[1], len(table[0])):
                for at in (2, 3):
                    self.assert_taken(table, paper[:at] + (paper[at] + [wrong],) + paper[at + 1:], False)
                    self.assert_taken(table, paper[:at] + ([wrong] + paper[at],) + paper[at + 1:], False)
                    self.assert_taken(table, paper[:at] + (tuple(paper[at]) + (wrong,),) + paper[at + 1:], False)

    def test_true_and_false_in_the_place_of_a_sign(self):
        # They would be found among the right ones, were they taken as numbers.
        paper = wall_of(Machine(WRITES_RIGHT), 1, 9)
        for at, wrong in ((2, (True,)), (2, (False,)), (3, (False,)), (4, ((0,), False, 0, (0,))),
                          (4, ((0,), 0, False, (0,))), (4, ((True,), 0, 0, (0,))), (4, ((0,), 0, 0, (False,)))):
            self.assert_taken(WRITES_RIGHT, paper[:at] + (paper[at] + [wrong],) + paper[at + 1:], False)
            kept = [thing for thing in paper[at] if thing != wrong]
            self.assert_taken(WRITES_RIGHT, paper[:at] + (kept + [wrong],) + paper[at + 1:], False)

    def test_wrong_contexts(self):
        for table, paper in GATHERED[::9]:
            blanks = (0,) * paper[1]
            right = (blanks, 0, 0, blanks)
            wrongs = [None, True, False, 0, 1, "", "wall", (), [], list(right), right[:3], right[1:], right + (0,)]
            wrongs += [(right,), (0, blanks, blanks, 0), (blanks, blanks, 0, 0), right[:1] + (0,) + right[3:]]
            for wrong in self.wrong_grams(paper[1], len(table[0])):
                wrongs += [(wrong, 0, 0, blanks), (blanks, 0, 0, wrong)]
            for wrong in (-1, FAR, True, False, None, "0", "", (), (0,), [], [0]):
                wrongs += [(blanks, wrong, 0, blanks), (blanks, 0, wrong, blanks)]
            wrongs += [(blanks, len(table), 0, blanks), (blanks, 0, len(table[0]), blanks)]
            for wrong in wrongs:
                self.assert_taken(table, paper[:4] + (paper[4] + [wrong],), False)
                self.assert_taken(table, paper[:4] + ([wrong] + paper[4],), False)
                self.assert_taken(table, paper[:4] + (tuple(paper[4]) + (wrong,),), False)

    def test_a_list_that_is_none(self):
        for table, paper in GATHERED[::9]:
            for at in (2, 3, 4):
                for wrong in (None, True, False, 0, 1, "", "0", "wall", paper[at][0], [paper[at]], (paper[at],)):
                    if wrong != paper[at]:
                        self.assert_taken(table, paper[:at] + (wrong,) + paper[at + 1:], False)

    def test_too_few_or_too_many(self):
        for table, paper in GATHERED[::9]:
            for wrong in (paper[:4], paper[:3], paper[:1], (), paper + (None,), paper + ([],), paper + (paper[4],),
                          paper[1:], ("wall",) + paper, (paper,), (paper[0], paper[2], paper[3], paper[4], paper[1])):
                self.assert_taken(table, wrong, False)

    def test_another_word_or_what_is_no_paper(self):
        for table, paper in GATHERED[::9]:
            for kind in ("", "Wall", "WALL", "walls", "wall ", "same", "shifted", "grow", None, True, 0, ("wall",),
                         ["wall"]):
                self.assert_taken(table, (kind,) + paper[1:], False)
            for wrong in (list(paper), None, True, False, 0, 1, FAR, "", "wall", "walls", [], ("same", 0, 1),
                          ("shifted", 0, 1), SWEEPS_PAPER):
                self.assert_taken(table, wrong, False)


class WhereAWallIsTaken(unittest.TestCase):
    STEPS = 60

    def assert_within(self, table, paper):
        """The machine's own context is one of contexts, and the grams farther off are in lefts and rights."""
        kind, width, lefts, rights, contexts = paper
        walked = plain_walk(table, FIRST, self.STEPS)
        self.assertEqual(len(walked), self.STEPS + 1)
        for state, place, marks in walked:
            cells = dict(marks)
            left = [cells.get(place - 1 - offset, 0) for offset in range(self.STEPS + 10)]
            right = [cells.get(place + 1 + offset, 0) for offset in range(self.STEPS + 10)]
            context = (tuple(left[:width]), state, cells.get(place, 0), tuple(right[:width]))
            self.assertIn(context, contexts)
            for offset in range(1, self.STEPS + 10 - width):
                self.assertIn(tuple(left[offset:offset + width]), lefts)
                self.assertIn(tuple(right[offset:offset + width]), rights)

    def test_the_machine_stays_within(self):
        for table, paper in GATHERED[::3]:
            told = wall_of(Machine(table), paper[1], FAR_MOST)
            self.assertIs(wall_taken(Machine(table), told), True)
            self.assert_within(table, told)

    def test_named_machines(self):
        for table in (GOES_RIGHT, WRITES_RIGHT, WRITES_LEFT, SWEEPS, TO_AND_FRO, COUNTS):
            for width in (1, 2, 3):
                told = wall_of(Machine(table), width, FAR_MOST)
                if told is not None:
                    self.assert_within(table, told)

    def test_no_wall_for_a_machine_that_stops(self):
        for table in (STOPS_AT_ONCE, BEAVER_TWO, BEAVER_THREE):
            for width in (1, 2, 3):
                self.assertIsNone(wall_of(Machine(table), width, FAR_MOST))


class WhatIsAskersOwn(unittest.TestCase):
    def test_what_was_told_is_told_again_as_it_was(self):
        for table, paper in GATHERED[::3]:
            machine = Machine(table)
            told = wall_of(machine, paper[1], FAR_MOST)
            for things in told[2:]:
                things.reverse()
                things.append(None)
                things.pop(0)
            self.assertEqual(wall_of(machine, paper[1], FAR_MOST), paper)
            told[4].clear()
            self.assertEqual(wall_of(machine, paper[1], FAR_MOST), paper)
            self.assertEqual(machine.table, as_tuples(table))

    def test_the_three_lists_are_not_one(self):
        told = wall_of(Machine(GOES_RIGHT), 1, 9)
        told[2].append((1,))
        self.assertEqual(told, ("wall", 1, [(0,), (1,)], [(0,)], [((0,), 0, 0, (0,))]))

    def test_what_was_handed_in_is_not_kept(self):
        paper = wall_of(Machine(WRITES_RIGHT), 2, 9)
        machine = Machine(WRITES_RIGHT)
        self.assertIs(wall_taken(machine, paper), True)
        gone = paper[4].pop()
        self.assertIs(wall_taken(machine, paper), False)
        paper[4].insert(0, gone)
        self.assertIs(wall_taken(machine, paper), True)


if __name__ == "__main__":
    unittest.main()
