import unittest

from plain import FAR, Spread, assert_alike, assert_refused, copied, with_tuples, wrong_shapes
from tapeproof.errors import NoShape
from tapeproof.shapes import laid_out, raised


def plain_cells(tokens, count):
    cells = []
    for token in tokens:
        if token[0] == "one":
            cells += [token[1]]
        else:
            for _ in range(count + token[2]):
                cells += list(token[1])
    return cells


def spread_token(spread, signs):
    if spread.below(2) == 0:
        return ("one", spread.below(signs))
    word = tuple(spread.below(signs) for _ in range(1 + spread.below(20)))
    return ("many", word, spread.below(4) if spread.below(5) else 100)


def spread_shape(seed):
    spread = Spread(seed)
    left = [spread_token(spread, 8) for _ in range(spread.below(6))]
    right = [spread_token(spread, 8) for _ in range(spread.below(6))]
    return (spread.below(12), "lr"[spread.below(2)], left, right)


def shapes():
    named = []
    for facing in "lr":
        named += [
            (0, facing, [], []), (3, facing, [("one", 1)], []), (3, facing, [], [("one", 2)]),
            (1, facing, [("many", (1,), 0)], []), (1, facing, [], [("many", (1,), 0)]),
            (1, facing, [("many", (1, 2), 1)], [("many", (0, 3), 2)]),
            (2, facing, [("one", 0), ("one", 0)], [("one", 0)]),
            (2, facing, [("many", (0,), 0)], [("many", (0, 0), 5)]),
            (0, facing, [("one", 1), ("many", (2, 3), 0), ("one", 4)], [("one", 5), ("many", (6, 7), 0), ("one", 1)]),
            (11, facing, [("many", tuple(range(8)) * 2 + (1, 2, 3, 4), 0)], [("many", (7,) * 20, 1)]),
        ]
    return named + [spread_shape(seed) for seed in range(80)]


class LaidOut(unittest.TestCase):
    def test_by_hand(self):
        shape = (3, "r", [("one", 1), ("many", (2, 3), 0), ("one", 4)], [("one", 5), ("many", (0, 6), 1), ("one", 7)])
        self.assertEqual(laid_out(shape, 0), (3, 0, ((-2, 1), (-1, 4), (0, 5), (2, 6), (3, 7))))
        self.assertEqual(
            laid_out(shape, 1),
            (3, 0, ((-4, 1), (-3, 2), (-2, 3), (-1, 4), (0, 5), (2, 6), (4, 6), (5, 7))),
        )
        self.assertEqual(
            laid_out((3, "l") + shape[2:], 2),
            (3, -1, ((-6, 1), (-5, 2), (-4, 3), (-3, 2), (-2, 3), (-1, 4), (0, 5), (2, 6), (4, 6), (6, 6), (7, 7))),
        )

    def test_empty_lists(self):
        for count in (0, 1, 2, 3, 100):
            for empty in ([], ()):
                self.assertEqual(laid_out((0, "r", empty, empty), count), (0, 0, ()))
                self.assertEqual(laid_out((5, "l", empty, empty), count), (5, -1, ()))
                self.assertEqual(laid_out((5, "l", empty, [("one", 2)]), count), (5, -1, ((0, 2),)))
                self.assertEqual(laid_out((5, "r", [("one", 2)], empty), count), (5, 0, ((-1, 2),)))

    def test_blanks_are_no_marks(self):
        self.assertEqual(laid_out((0, "r", [("one", 0)], [("many", (0,), 3), ("one", 1)]), 2), (0, 0, ((5, 1),)))

    def test_cell_by_cell(self):
        for shape in shapes():
            for count in (0, 1, 2, 3, 7, 20):
                with self.subTest(shape=shape, count=count):
                    state, place, marks = laid_out(shape, count)
                    self.assertEqual(state, shape[0])
                    self.assertEqual(place, 0 if shape[1] == "r" else -1)
                    left = plain_cells(shape[2], count)
                    right = plain_cells(shape[3], count)
                    expected = [(at - len(left), sign) for at, sign in enumerate(left)] + list(enumerate(right))
                    assert_alike(self, marks, tuple(cell for cell in expected if cell[1] != 0))

    def test_great_counts(self):
        told = laid_out((0, "r", [("many", (1,) * 20, 100)], [("many", (2,) * 20, 100)]), 100)
        assert_alike(self, told, (0, 0, tuple((at, 1 if at < 0 else 2) for at in range(-4000, 4000))))

    def test_a_hundred_tokens(self):
        tokens = [("one", 1), ("many", (2,), 0)] * 50
        self.assertEqual(
            laid_out((0, "l", tokens, []), 1), (0, -1, tuple((at, 1 + at % 2) for at in range(-100, 0))),
        )

    def test_any_state_and_any_sign_from_nought_on(self):
        for number in (0, 1, 12, 500, FAR):
            self.assertEqual(laid_out((number, "r", [], [("one", 1)]), 0), (number, 0, ((0, 1),)))
            self.assertEqual(
                laid_out((0, "r", [("one", number + 1)], [("many", (number + 1,), 1)]), 0),
                (0, 0, ((-1, number + 1), (0, number + 1))),
            )

    def test_lists_and_tuples_are_alike(self):
        for shape in shapes():
            for count in (0, 3):
                told = laid_out(shape, count)
                assert_alike(self, laid_out(with_tuples(shape), count), told)
                assert_alike(self, laid_out(shape[:2] + (tuple(shape[2]), shape[3]), count), told)
                assert_alike(self, laid_out(shape[:2] + (shape[2], tuple(shape[3])), count), told)

    def test_the_kinds(self):
        told = laid_out((0, "r", [("many", (1,), 2)], [("one", 2)]), 0)
        self.assertIs(type(told), tuple)
        self.assertIs(type(told[2]), tuple)
        self.assertTrue(all(type(mark) is tuple and len(mark) == 2 for mark in told[2]))


class Raised(unittest.TestCase):
    def test_by_hand(self):
        shape = (3, "l", [("one", 1), ("many", (2, 3), 0), ("one", 4)], [("many", (0, 6), 1), ("many", (1,), 99)])
        self.assertEqual(raised(shape), (
            3, "l", (("one", 1), ("many", (2, 3), 1), ("one", 4)), (("many", (0, 6), 2), ("many", (1,), 100)),
        ))
        self.assertEqual(raised((0, "r", [], [])), (0, "r", (), ()))

    def test_each_extra_is_one_more(self):
        for shape in shapes():
            for given in (shape, with_tuples(shape)):
                told = raised(given)
                self.assertIs(type(told), tuple)
                self.assertEqual(told[:2], shape[:2])
                for tokens, before in zip(told[2:], shape[2:], strict=True):
                    self.assertIs(type(tokens), tuple)
                    for token, old in zip(tokens, before, strict=True):
                        self.assertEqual(token, old if old[0] == "one" else ("many", old[1], old[2] + 1))

    def test_is_laid_out_as_the_shape_at_the_next_count(self):
        for shape in shapes():
            for count in (0, 1, 2, 3, 10):
                assert_alike(self, laid_out(raised(shape), count), laid_out(shape, count + 1))

    def test_twice(self):
        for shape in shapes():
            assert_alike(self, laid_out(raised(raised(shape)), 1), laid_out(shape, 3))


class WhatIsHandedIn(unittest.TestCase):
    def test_stays_as_it_was(self):
        for shape in shapes():
            before = copied(shape)
            laid_out(shape, 3)
            raised(shape)
            self.assertEqual(shape, before)
            self.assertEqual([type(thing) for thing in shape], [type(thing) for thing in before])

    def test_may_change_afterwards(self):
        for shape in shapes():
            given = copied(shape)
            shot = laid_out(given, 2)
            higher = raised(given)
            given[2].append(("one", 1))
            given[3].clear()
            assert_alike(self, shot, laid_out(shape, 2))
            self.assertEqual(higher, raised(shape))


class Refused(unittest.TestCase):
    def test_what_is_no_shape(self):
        for shape in wrong_shapes():
            with self.subTest(shape=shape):
                assert_refused(self, NoShape, raised, shape)
                for count in (0, 1, 3, -1):
                    assert_refused(self, NoShape, laid_out, shape, count)

    def test_a_count_that_is_none(self):
        for shape in shapes():
            for count in (-1, -2, -FAR, True, False, None):
                with self.subTest(shape=shape, count=count):
                    assert_refused(self, NoShape, laid_out, shape, count)

    def test_extras_do_not_help_a_count_below_nought(self):
        assert_refused(self, NoShape, laid_out, (0, "r", [("many", (1,), 5)], [("many", (1,), 9)]), -1)


if __name__ == "__main__":
    unittest.main()
