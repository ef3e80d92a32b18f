import unittest
from itertools import product

from plain import (
    FAR, GOES_RIGHT, NO_MOVES, SWEEPS, WORDS, Spread, all_moves, as_tuples, assert_refused, copied, from_machine, many,
    many_tables, mirrored_move, mirrored_shape, mirrored_table, ones, over_word, plain_moved, plain_walk, spread_table,
    staying_table, steps_of, with_lists, with_tuples, wrong_shapes,
)
from tapeproof.errors import NoMove, NoShape
from tapeproof.growing import moved
from tapeproof.machines import Machine
from tapeproof.shapes import laid_out
from tapeproof.turns import machine_of

# State 0 goes on to the right over 1, turns about at 2 and stops at 3; state 1 goes to the left and to and fro.
HAND = [
    [(1, "r", 1), (2, "r", 0), (1, "l", 2), None],
    [(2, "l", 0), (3, "l", 1), (2, "r", 2), (1, "l", 1)],
    [(0, "r", 2), (2, "r", 2), (3, "r", 0), None],
]


STEPS = [
    # What is behind comes here: onto a one, to the right and to the left, and onto the blank beyond an empty list.
    ((0, "r", ones(3), ones(1, 2)), (0, "r", ones(3, 2), ones(2))),
    ((0, "r", ones(3), ones(2, 1)), (2, "l", ones(3), ones(1, 1))),
    ((0, "r", ones(3), ones(0, 1)), (1, "r", ones(3, 1), ones(1))),
    ((0, "r", ones(3), ()), (1, "r", ones(3, 1), ())),
    ((0, "r", (), ()), (1, "r", ones(1), ())),
    ((1, "r", (), ()), (0, "l", (), ones(2))),
    ((1, "r", (many(2, 1, 2),), ()), (0, "l", (many(2, 1, 2),), ones(2))),
    ((1, "r", (many(0, 1),), ones(1) + (many(0, 2),)), (1, "l", (many(0, 1),), ones(3) + (many(0, 2),))),
    ((1, "l", ones(1, 2), ones(3)), (2, "r", ones(1, 2), ones(3))),
    ((1, "l", ones(1, 1), ones(3)), (1, "l", ones(1), ones(3, 3))),
    ((1, "l", (), ones(3)), (0, "l", (), ones(2, 3))),
    ((0, "l", (), (many(0, 1),)), (1, "r", ones(1), (many(0, 1),))),
    ((0, "l", (many(0, 2),) + ones(1), ()), (0, "r", (many(0, 2),) + ones(2), ())),
]

OVERS = [
    # Words of one sign and of more, left as others and as they were, walked straight on and to and fro.
    ((0, "r", ones(3), (many(0, 1),) + ones(3)), (0, "r", ones(3) + (many(0, 2),), ones(3))),
    ((0, "r", (), (many(3, 1, 1, 1),)), (0, "r", (many(3, 2, 2, 2),), ())),
    ((2, "r", (), (many(1, 0, 1),)), (2, "r", (many(1, 0, 2),), ())),
    ((2, "r", (many(1, 0),), (many(1, 0), many(2, 1))), (2, "r", (many(1, 0), many(1, 0)), (many(2, 1),))),
    ((1, "l", (many(1, 0), many(2, 1)), ones(0)), (1, "l", (many(1, 0),), (many(2, 3),) + ones(0))),
    ((1, "l", (many(0, 3, 1),), ()), (1, "l", (), (many(0, 1, 3),))),
    # Over the 1, at the 2 about and back onto the first cell, there about again, and on to the right out of the word.
    ((0, "r", (), (many(5, 1, 2, 1),)), (0, "r", (many(5, 3, 2, 2),), ())),
]

NOT_OVERS = [
    ((0, "r", (), (many(1, 2),)), "left at the near end, in another state"),
    ((1, "r", (), (many(1, 1),)), "left at the near end, in the same state"),
    ((1, "r", (), (many(1, 1, 1),)), "left at the near end, in the same state"),
    ((0, "r", (), (many(1, 0),)), "left at the other end in another state"),
    ((2, "r", (), (many(1, 2),)), "left at the other end in another state"),
    ((2, "r", (), (many(1, 0, 0, 2),)), "left at the other end in another state"),
    ((0, "r", (), (many(1, 3),)), "stops at the first cell"),
    ((0, "r", (), (many(0, 1, 1, 3),)), "stops within"),
    ((0, "r", (), (many(0, 1, 3, 1),)), "stops within"),
    ((0, "r", (), ones(1)), "a one"),
    ((0, "r", (many(1, 1),), ones(1) + (many(1, 1),)), "a one ahead of the many"),
    ((0, "r", (many(1, 1),), ()), "an empty list, the many being behind"),
    ((0, "l", (), (many(1, 1),)), "an empty list, the many being behind"),
    ((0, "l", (many(0, 1),), ()), "left at the near end"),
    ((1, "l", (many(0, 0),), ()), "left at the other end in another state"),
]

OPENS = [
    ((0, "r", ones(3), (many(1, 1, 2), many(1, 3))), (0, "r", ones(3), ones(1, 2) + (many(0, 1, 2), many(1, 3)))),
    ((0, "r", (), (many(1, 1, 2, 3),) + ones(2)), (0, "r", (), ones(1, 2, 3) + (many(0, 1, 2, 3),) + ones(2))),
    ((0, "r", (), (many(5, 2),)), (0, "r", (), ones(2) + (many(4, 2),))),
    ((1, "l", ones(2) + (many(2, 1, 2, 3),), ()), (1, "l", ones(2) + (many(1, 1, 2, 3),) + ones(1, 2, 3), ())),
    ((1, "l", (many(1, 3), many(2, 1, 2)), ones(3)), (1, "l", (many(1, 3), many(1, 1, 2)) + ones(1, 2), ones(3))),
    ((1, "l", (many(100, 0),), ()), (1, "l", (many(99, 0),) + ones(0), ())),
]

NOT_OPENS = [
    (0, "r", (), (many(0, 1),)), (0, "l", (many(0, 1, 2),), ()), (0, "r", (), ones(1) + (many(3, 1),)),
    (0, "l", (many(3, 1),) + ones(1), ()), (0, "r", (many(3, 1),), ()), (0, "l", (), (many(3, 1),)),
    (0, "r", (), ones(1)), (0, "l", ones(0), ()), (0, "r", (), ()), (0, "l", (), ()),
]

# Of the list l, the move and what becomes of it; of the list r all is mirrored.
PUT_TOGETHER = [
    (("join", "l", 0), (many(0, 1),) + ones(1), (many(1, 1),)),
    (("join", "l", 0), (many(2, 1),) + ones(1, 1), (many(3, 1),) + ones(1)),
    (("join", "l", 0), (many(2, 1, 2, 3),) + ones(1, 2, 3), (many(3, 1, 2, 3),)),
    (("join", "l", 0), (many(2, 1, 2),) + ones(1, 2, 3) + (many(1, 1),), (many(3, 1, 2),) + ones(3) + (many(1, 1),)),
    (("join", "l", 2), ones(1, 2) + (many(0, 1, 2),) + ones(1, 2), ones(1, 2) + (many(1, 1, 2),)),
    (("join", "l", 1), (many(0, 1), many(0, 1)) + ones(1), (many(0, 1), many(1, 1))),
    (("join", "l", 0), (many(0, 0),) + ones(0), (many(1, 0),)),
    (("draw", "l", 1), ones(1) + (many(0, 1),), (many(1, 1),)),
    (("draw", "l", 2), ones(1, 1) + (many(0, 1),) + ones(1), ones(1) + (many(1, 1),) + ones(1)),
    (("draw", "l", 3), ones(1, 2, 3) + (many(4, 1, 2, 3),), (many(5, 1, 2, 3),)),
    (("draw", "l", 4), ones(3, 1, 2, 3) + (many(4, 1, 2, 3), many(0, 1)), ones(3) + (many(5, 1, 2, 3), many(0, 1))),
    (("draw", "l", 2), (many(0, 2),) + ones(1) + (many(0, 1),), (many(0, 2), many(1, 1))),
    (("draw", "l", 1), ones(0) + (many(0, 0),), (many(1, 0),)),
    (("roll", "l", 1), ones(1) + (many(0, 1),), (many(0, 1),) + ones(1)),
    (("roll", "l", 1), ones(3) + (many(2, 1, 2, 3),) + ones(2), (many(2, 3, 1, 2),) + ones(3, 2)),
    (("roll", "l", 2), ones(1, 2) + (many(2, 1, 2),), ones(1) + (many(2, 2, 1),) + ones(2)),
    (("roll", "l", 1), ones(2) + (many(0, 1, 2), many(0, 3)), (many(0, 2, 1),) + ones(2) + (many(0, 3),)),
    (("back", "l", 0), (many(0, 1),) + ones(1), ones(1) + (many(0, 1),)),
    (("back", "l", 0), (many(2, 1, 2, 3),) + ones(1), ones(1) + (many(2, 2, 3, 1),)),
    (("back", "l", 1), ones(3) + (many(2, 1, 2),) + ones(1, 2), ones(3, 1) + (many(2, 2, 1),) + ones(2)),
    (("back", "l", 1), (many(1, 1), many(2, 1, 2)) + ones(1), (many(1, 1),) + ones(1) + (many(2, 2, 1),)),
    (("trim", "l"), ones(0), ()),
    (("trim", "l"), ones(0, 0, 1), ones(0, 1)),
    (("trim", "l"), ones(0) + (many(0, 0),), (many(0, 0),)),
    (("pad", "l"), (), ones(0)),
    (("pad", "l"), ones(1), ones(0, 1)),
    (("pad", "l"), ones(0), ones(0, 0)),
    (("pad", "l"), (many(2, 1, 2),), ones(0) + (many(2, 1, 2),)),
]

NOT_PUT_TOGETHER = [
    (("join", "l", 0), (many(0, 1),)), (("join", "l", 0), (many(0, 1),) + ones(2)),
    (("join", "l", 0), (many(0, 1, 2, 3),) + ones(1, 2)), (("join", "l", 0), (many(0, 1, 2, 3),) + ones(1, 2, 2)),
    (("join", "l", 0), (many(0, 1, 2, 3),) + ones(2, 2, 3)), (("join", "l", 0), (many(0, 1, 2),) + ones(2, 1)),
    (("join", "l", 0), (many(0, 1, 2),) + ones(1) + (many(0, 1),) + ones(2)),
    (("join", "l", 0), (many(0, 1), many(0, 1)) + ones(1)), (("join", "l", 1), ones(1) + (many(0, 1),)),
    (("join", "l", 2), ones(1, 2) + (many(0, 1, 2),) + ones(1)), (("join", "l", 0), (many(0, 1), many(1, 1))),
    (("draw", "l", 0), (many(0, 1),)), (("draw", "l", 0), (many(0, 1),) + ones(1)),
    (("draw", "l", 1), ones(2) + (many(0, 1),)), (("draw", "l", 1), ones(2) + (many(0, 1, 2),) + ones(1, 2)),
    (("draw", "l", 2), ones(1, 2) + (many(0, 1, 2, 1),)), (("draw", "l", 2), ones(2, 3) + (many(0, 1, 2, 3),)),
    (("draw", "l", 3), ones(1, 3, 3) + (many(0, 1, 2, 3),)), (("draw", "l", 2), ones(2, 1) + (many(0, 1, 2),)),
    (("draw", "l", 3), ones(1) + (many(0, 1),) + ones(2) + (many(0, 1, 2),)),
    (("draw", "l", 2), ones(1) + (many(0, 1), many(0, 1))),
    (("roll", "l", 0), (many(0, 1),)), (("roll", "l", 0), (many(0, 1),) + ones(1)),
    (("roll", "l", 1), ones(2) + (many(0, 1),)), (("roll", "l", 1), ones(1) + (many(0, 1, 2),)),
    (("roll", "l", 1), (many(0, 1), many(0, 1))), (("roll", "l", 2), ones(2) + (many(0, 1), many(0, 1, 2))),
    (("back", "l", 0), (many(0, 1),)), (("back", "l", 1), ones(1) + (many(0, 1),)),
    (("back", "l", 0), (many(0, 1),) + ones(2)), (("back", "l", 0), (many(0, 1, 2),) + ones(2)),
    (("back", "l", 0), (many(0, 1), many(0, 1))), (("back", "l", 0), (many(0, 1), many(0, 1)) + ones(1)),
    (("trim", "l"), ()), (("trim", "l"), ones(1)), (("trim", "l"), ones(1, 0)), (("trim", "l"), (many(0, 0),)),
    (("trim", "l"), (many(3, 0, 0),) + ones(0)),
]

# It counts in twos behind a 3, from the left on: 1 is a nought, 2 a one. It leaves the word where the number is full.
COUNTER = [
    [None, (2, "l", 1), (1, "r", 0), (3, "r", 0), (4, "r", 0)],
    [None, (1, "l", 1), None, (3, "r", 0), None],
]


def counter_word(steps):
    """A word over which the counter goes in just so many steps; the 4 ahead of the 3 takes one step each."""
    for number in range(2 ** 9):
        word = (3,) + tuple(1 + (number >> bit) % 2 for bit in range(9))
        done = over_word(COUNTER, 0, word, 10 ** 5)[1]
        if 0 <= steps - done <= 10:
            return (4,) * (steps - done) + word
    return None


class ByHand(unittest.TestCase):
    def assert_moved(self, table, shape, move, expected):
        """For the shape with lists and with tuples, and mirrored."""
        for turned, given, asked, told in (
            (table, shape, move, expected),
            (mirrored_table(table), mirrored_shape(shape), mirrored_move(move), mirrored_shape(expected)),
        ):
            machine = Machine(turned)
            for handed in (with_tuples(given), with_lists(given), given[:2] + (list(given[2]), tuple(given[3]))):
                with self.subTest(shape=handed, move=asked):
                    behind = moved(machine, handed, asked)
                    self.assertEqual(behind, told)
                    self.assertEqual(repr(behind), repr(told))

    def assert_not_moved(self, table, shape, move):
        for turned, given, asked in (
            (table, shape, move), (mirrored_table(table), mirrored_shape(shape), mirrored_move(move)),
        ):
            for handed in (with_tuples(given), with_lists(given)):
                with self.subTest(shape=handed, move=asked):
                    assert_refused(self, NoMove, moved, Machine(turned), handed, asked)

    def test_step(self):
        for shape, behind in STEPS:
            self.assert_moved(HAND, shape, ("step",), behind)

    def test_no_step_onto_a_many(self):
        for extra in (0, 1, 5):
            for word in ((1,), (0,), (1, 2)):
                self.assert_not_moved(HAND, (0, "r", ones(1), (many(extra, *word),)), ("step",))
                self.assert_not_moved(HAND, (0, "r", ones(1), (many(extra, *word),) + ones(1)), ("step",))
                self.assert_not_moved(HAND, (1, "l", (many(extra, *word),), ones(1)), ("step",))

    def test_no_step_where_the_machine_stops(self):
        for tokens in (ones(3), ones(3, 1), ones(3) + (many(0, 1),)):
            self.assert_not_moved(HAND, (0, "r", ones(1), tokens), ("step",))
            self.assert_not_moved(HAND, (2, "r", (), tokens), ("step",))
        stops_at_blank = [[None, (1, "r", 0)]]
        for shape in ((0, "r", (), ()), (0, "r", ones(1), ()), (0, "l", (), ones(1)), (0, "r", (), ones(0))):
            self.assert_not_moved(stops_at_blank, shape, ("step",))

    def test_over(self):
        for shape, behind in OVERS:
            self.assert_moved(HAND, shape, ("over",), behind)

    def test_not_over(self):
        for shape, why in NOT_OVERS:
            self.assert_not_moved(HAND, shape, ("over",))

    def test_over_to_and_fro(self):
        shape = (0, "r", (), (many(5, 1, 2, 1),))
        self.assertEqual(over_word(HAND, 0, (1, 2, 1)), ((3, 2, 2), 5))
        self.assert_moved(HAND, shape, ("over",), (0, "r", (many(5, 3, 2, 2),), ()))

    def test_over_by_at_most_a_thousand_steps(self):
        for steps in (900, 998, 999, 1000):
            word = counter_word(steps)
            left, done = over_word(COUNTER, 0, word, 2000)
            self.assertEqual(done, steps)
            self.assertLessEqual(len(word), 20)
            self.assertNotEqual(left, word)
            self.assert_moved(COUNTER, (0, "r", (), (many(1, *word),)), ("over",), (0, "r", (many(1, *left),), ()))
        for steps in (1001, 1002, 1003, 1500):
            word = counter_word(steps)
            self.assertEqual(over_word(COUNTER, 0, word, 2000)[1], steps)
            self.assert_not_moved(COUNTER, (0, "r", (), (many(1, *word),)), ("over",))

    def test_not_over_where_it_stays_for_ever(self):
        to_and_fro = [[(1, "r", 1), (1, "r", 1)], [(1, "l", 0), (1, "l", 0)]]
        for word in ((0, 0), (1, 1), (0, 1, 0), (0,) * 20):
            self.assert_not_moved(to_and_fro, (0, "r", (), (many(1, *word),)), ("over",))

    def test_open(self):
        for shape, behind in OPENS:
            self.assert_moved(HAND, shape, ("open",), behind)

    def test_not_open(self):
        for shape in NOT_OPENS:
            self.assert_not_moved(HAND, shape, ("open",))

    def test_put_together(self):
        for move, tokens, behind in PUT_TOGETHER:
            for state, facing, other in ((0, "r", ()), (2, "l", ones(3)), (1, "l", (many(7, 1, 2),))):
                self.assert_moved(HAND, (state, facing, tokens, other), move, (state, facing, behind, other))

    def test_not_put_together(self):
        for move, tokens in NOT_PUT_TOGETHER:
            for state, facing, other in ((0, "r", ()), (2, "l", ones(3)), (1, "l", (many(7, 1, 2),))):
                self.assert_not_moved(HAND, (state, facing, tokens, other), move)

    def test_the_side_r_as_it_stands(self):
        """Not mirrored, but written out, so that the sides can not both be wrong."""
        for move, tokens, behind in (
            (("join", "r", 0), ones(3, 1, 2) + (many(0, 1, 2),), ones(3) + (many(1, 1, 2),)),
            (("join", "r", 1), ones(1, 2) + (many(0, 1, 2),) + ones(1), (many(1, 1, 2),) + ones(1)),
            (("draw", "r", 2), (many(0, 1, 2),) + ones(1, 2), (many(1, 1, 2),)),
            (("draw", "r", 3), ones(1) + (many(0, 1, 2),) + ones(1, 2, 3), ones(1) + (many(1, 1, 2),) + ones(3)),
            (("roll", "r", 1), (many(0, 1, 2, 3),) + ones(1), ones(1) + (many(0, 2, 3, 1),)),
            (("back", "r", 0), ones(3) + (many(0, 1, 2, 3),), (many(0, 3, 1, 2),) + ones(3)),
            (("trim", "r"), ones(0, 1, 0), ones(0, 1)),
            (("pad", "r"), ones(1), ones(1, 0)),
        ):
            self.assertEqual(moved(Machine(HAND), (0, "r", (), tokens), move), (0, "r", (), behind))
        for move, tokens in (
            (("roll", "r", 1), (many(0, 1, 2, 3),) + ones(3)), (("back", "r", 0), ones(1) + (many(0, 1, 2, 3),)),
            (("join", "r", 0), ones(2, 1) + (many(0, 1, 2),)), (("draw", "r", 2), (many(0, 1, 2),) + ones(2, 1)),
            (("trim", "r"), ones(0, 1)),
        ):
            assert_refused(self, NoMove, moved, Machine(HAND), (0, "r", (), tokens), move)

    def test_numbers_of_each_token(self):
        # All four could be done at the many alone, which is the token 2 of each list; of both its neighbours no one.
        left = ones(1, 1) + (many(0, 1),) + ones(1, 1, 1)
        right = ones(1, 1, 1) + (many(0, 1),) + ones(1, 1)
        for side, many_at in (("l", 2), ("r", 2)):
            for word in ("join", "draw", "roll", "back"):
                for at in list(range(-8, 9)) + [True, False, FAR, -FAR, None, "2", "", (2,), [2], ()]:
                    shape = (0, "r", left, right)
                    with self.subTest(word=word, side=side, at=at):
                        if at is not True and at == many_at:
                            moved(Machine(HAND), shape, (word, side, at))
                        else:
                            assert_refused(self, NoMove, moved, Machine(HAND), shape, (word, side, at))

    def test_true_and_false_are_no_numbers(self):
        about = ones(1) + (many(0, 1),) + ones(1)
        for at, side, shape, words in (
            (False, "l", (0, "r", about[1:], ()), ("join", "back")),
            (False, "r", (0, "r", (), about[:2]), ("join", "back")),
            (True, "l", (0, "r", about, ()), WORDS),
            (True, "r", (0, "r", (), about), WORDS),
        ):
            for word in words:
                expected = plain_moved(HAND, shape, (word, side, int(at)))
                self.assertIsNotNone(expected)
                self.assertEqual(moved(Machine(HAND), shape, (word, side, int(at))), expected)
                assert_refused(self, NoMove, moved, Machine(HAND), shape, (word, side, at))


def spread_tokens(spread, signs):
    """Tokens near each of whose manies there stand ones that are often those asked for."""
    tokens = []
    for _ in range(1 + spread.below(3)):
        word = tuple(spread.below(signs) for _ in range(1 + spread.below(3)))
        about = [ones(*word), ones(*word[:1]), ones(*word[-1:]), ones(*word[1:]), ones(spread.below(signs)), ones(0)]
        about.append(())
        tokens += about[spread.below(len(about))]
        if spread.below(3):
            tokens.append(many(spread.below(3), *word))
        tokens += about[spread.below(len(about))]
    return [[], tokens[:1], tokens[-1:]][spread.below(3)] if spread.below(8) == 0 else tokens


def spread_cases():
    """Tables of up to three signs, and shapes of theirs."""
    tables = [table for table in many_tables() if len(table) < 5 and len(table[0]) < 4]
    tables += [staying_table(seed, 1 + seed % 3, 2 + seed % 2) for seed in range(60)]
    tables += [spread_table(seed, 2, 2) for seed in range(200, 230)]
    for seed, table in enumerate(tables):
        spread = Spread(seed)
        for facing in "lrlrlrlr":
            left = spread_tokens(spread, len(table[0]))
            right = spread_tokens(spread, len(table[0]))
            yield table, (spread.below(len(table)), facing, left, right)


class AgainstPlainMoves(unittest.TestCase):
    def test_all_moves_of_many_shapes(self):
        done = {}
        for table, shape in spread_cases():
            machine = Machine(table)
            for move in all_moves(shape):
                expected = plain_moved(table, shape, move)
                with self.subTest(table=table, shape=shape, move=move):
                    if expected is None:
                        assert_refused(self, NoMove, moved, machine, shape, move)
                        continue
                    key = (shape[1],) + move[:2]
                    done[key] = done.get(key, 0) + 1
                    told = moved(machine, shape, move)
                    self.assertEqual(told, expected)
                    self.assertIs(type(told[2]), tuple)
                    self.assertIs(type(told[3]), tuple)
        for facing in "lr":
            for move in [("step",), ("open",)] + [(word, side) for word in WORDS for side in "lr"]:
                self.assertGreater(done[(facing,) + move], 20, (facing, move))

    def test_over_all_short_words(self):
        done = {1: 0, 2: 0, 3: 0}
        tables = [machine_of(2, 2, number).table for number in range(0, 6561, 29)]
        tables += [staying_table(seed, 2, 3) for seed in range(60)]
        for table in tables:
            machine = Machine(table)
            words = [word for length in (1, 2, 3) for word in product(range(len(table[0])), repeat=length)]
            for shape in [(state, "r", ones(1), (many(1, *word),)) for word in words for state in range(2)]:
                for given in (shape, (shape[0], "l") + shape[:1:-1]):
                    expected = plain_moved(table, given, ("over",))
                    with self.subTest(table=table, shape=given):
                        if expected is None:
                            assert_refused(self, NoMove, moved, machine, given, ("over",))
                        else:
                            self.assertEqual(moved(machine, given, ("over",)), expected)
                            done[len(shape[3][0][1])] += 1
        self.assertGreater(min(done.values()), 200)

    def test_plain_steps_lead_from_the_one_to_the_other(self):
        for table, shape in spread_cases():
            machine = Machine(table)
            for move in all_moves(shape):
                if plain_moved(table, shape, move) is None:
                    continue
                told = moved(machine, shape, move)
                for count in range(4):
                    steps = steps_of(table, shape, move, count)
                    walked = plain_walk(table, laid_out(shape, count), steps)
                    with self.subTest(table=table, shape=shape, move=move, count=count):
                        self.assertEqual(len(walked), steps + 1)
                        self.assertEqual(from_machine(walked[-1]), from_machine(laid_out(told, count)))

    def test_plain_steps_by_hand(self):
        cases = [(shape, ("step",)) for shape, behind in STEPS] + [(shape, ("over",)) for shape, behind in OVERS]
        cases += [(shape, ("open",)) for shape, behind in OPENS]
        cases += [((0, "r", tokens, ()), move) for move, tokens, behind in PUT_TOGETHER]
        for shape, move in cases:
            told = moved(Machine(HAND), shape, move)
            for count in range(4):
                steps = steps_of(HAND, shape, move, count)
                walked = plain_walk(HAND, laid_out(shape, count), steps)
                self.assertEqual(len(walked), steps + 1)
                self.assertEqual(from_machine(walked[-1]), from_machine(laid_out(told, count)))


class WhatIsNoMove(unittest.TestCase):
    def test_is_refused(self):
        # Much can be done with these: a step, over, open, and most that puts tokens together.
        both = ones(0, 1) + (many(1, 1),) + ones(1, 0)
        manies = (many(1, 1), many(1, 1))
        for table in (HAND, mirrored_table(HAND), SWEEPS):
            for shape in (
                (0, "r", both, both), (0, "l", both, both), (0, "r", manies, manies), (1, "l", manies, manies),
                (0, "r", (), ()), (1, "l", [], []), (0, "r", [many(1, 1)] + list(ones(1)), list(both)),
            ):
                for move in NO_MOVES:
                    with self.subTest(shape=shape, move=move):
                        assert_refused(self, NoMove, moved, Machine(table), shape, move)


SOME_MOVES = [
    ("step",), ("over",), ("open",), ("join", "l", 0), ("draw", "r", 1), ("roll", "l", 0), ("back", "r", 0),
    ("trim", "l"), ("pad", "r"), None, 0, (), [], "step", ("fold",), ("join", "l", True), ("pad", None),
]


class NoShapes(unittest.TestCase):
    def test_what_is_no_shape(self):
        machine = Machine(HAND)
        for shape in wrong_shapes():
            for move in SOME_MOVES:
                with self.subTest(shape=shape, move=move):
                    assert_refused(self, NoShape, moved, machine, shape, move)

    def test_a_state_that_the_machine_has_not(self):
        for table in (HAND, SWEEPS, GOES_RIGHT):
            for state in (len(table), len(table) + 1, 12, FAR):
                for tokens in ((), ones(0)):
                    for facing in "lr":
                        for move in SOME_MOVES:
                            shape = (state, facing, list(tokens), tokens)
                            assert_refused(self, NoShape, moved, Machine(table), shape, move)

    def test_a_sign_that_the_machine_has_not(self):
        for table in (HAND, SWEEPS, GOES_RIGHT):
            least = len(table[0])
            for sign in (least, least + 1, FAR):
                for token in (("one", sign), many(0, sign), many(1, 0, sign), many(2, sign, 0), many(0, 0, sign, 0)):
                    for tokens in ((token,), ones(0) + (token,), (token,) + ones(0), (many(0, 0), token, many(1, 0))):
                        for move in SOME_MOVES:
                            with self.subTest(table=table, tokens=tokens, move=move):
                                assert_refused(self, NoShape, moved, Machine(table), (0, "r", tokens, ()), move)
                                assert_refused(self, NoShape, moved, Machine(table), (0, "l", [], list(tokens)), move)

    def test_the_greatest_state_and_sign_are_let_in(self):
        for table in (HAND, SWEEPS, GOES_RIGHT):
            last = (len(table) - 1, "r", ones(len(table[0]) - 1), (many(0, len(table[0]) - 1),))
            self.assertEqual(moved(Machine(table), last, ("pad", "l")), last[:2] + (ones(0) + last[2], last[3]))


class WhatIsHandedIn(unittest.TestCase):
    def test_stays_as_it_was(self):
        for table, shape in list(spread_cases())[::5]:
            machine = Machine(table)
            before = copied(shape)
            for move in all_moves(shape):
                if plain_moved(table, shape, move) is not None:
                    moved(machine, shape, move)
                    self.assertEqual(shape, before)
                    self.assertEqual(repr(shape), repr(before))
            self.assertEqual(machine.table, as_tuples(table))

    def test_is_not_kept(self):
        left, right = list(ones(1)), [many(1, 1)]
        told = moved(Machine(HAND), (0, "r", left, right), ("pad", "l"))
        left.append(("one", 2))
        right.clear()
        self.assertEqual(told, (0, "r", ones(0, 1), (many(1, 1),)))

    def test_is_told_again_as_it_was(self):
        for table, shape in list(spread_cases())[::7]:
            machine = Machine(table)
            for move in all_moves(shape):
                expected = plain_moved(table, shape, move)
                if expected is not None:
                    self.assertEqual(moved(machine, shape, move), expected)
                    self.assertEqual(moved(machine, shape, move), expected)


class Bounds(unittest.TestCase):
    def test_a_hundred_tokens_with_words_of_twenty_signs(self):
        word = (1, 2) * 10
        tokens = tuple(many(100, *word) for _ in range(50))
        shape = (0, "r", tokens, tokens)
        table = [[None, (2, "r", 0), (1, "r", 0)]]
        behind = moved(Machine(table), shape, ("over",))
        self.assertEqual(behind, (0, "r", tokens + (many(100, *(2, 1) * 10),), tokens[1:]))
        behind = moved(Machine(table), shape, ("open",))
        self.assertEqual(behind, (0, "r", tokens, ones(*word) + (many(99, *word),) + tokens[1:]))

    def test_great_extras(self):
        for extra in (100, 10 ** 6, FAR):
            shape = (0, "r", (many(extra, 1),) + ones(1), (many(extra, 1),))
            self.assertEqual(moved(Machine(HAND), shape, ("join", "l", 0)), (0, "r", (many(extra + 1, 1),), shape[3]))
            self.assertEqual(moved(Machine(HAND), shape, ("over",)), (0, "r", shape[2] + (many(extra, 2),), ()))


if __name__ == "__main__":
    unittest.main()
