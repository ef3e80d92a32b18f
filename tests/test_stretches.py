import unittest

from plain import TABLES, assert_alike, assert_refused, copied, plain_stretches, plain_walk, spread_shot
from tapeproof.errors import NoStretches
from tapeproof.stretches import shot_of, stretches_of

FAR = 10 ** 50 - 1
ABOUTS = (0, 1, -1, 17, -17, FAR, -FAR, 10 ** 49 + 3, -10 ** 49 - 3)

# Signs from the machine's own cell on to the right, or from the cell left of it on to the left; 0 is the blank.
CLUSTERS = (
    (), (1,), (2,), (1, 1), (1, 2), (2, 2, 2, 2), (1, 1, 2, 2, 2, 1), (0, 1), (0, 0, 0, 3), (1, 0, 1), (1, 0, 0, 2, 2),
    (0, 1, 1, 0, 0, 1, 0, 2), (1, 2, 1, 2, 1, 2), (7, 7, 0, 7, 7), (3,) * 40 + (0,) * 30 + (3,) * 2,
)


def shot_of_clusters(state, about, left, right):
    cells = [(about - 1 - offset, sign) for offset, sign in enumerate(left)]
    cells += [(about + offset, sign) for offset, sign in enumerate(right)]
    return (state, about, tuple(sorted(cell for cell in cells if cell[1] != 0)))


def near_shots():
    for about in ABOUTS:
        for left in CLUSTERS:
            for right in CLUSTERS:
                yield shot_of_clusters((len(left) + len(right)) % 12, about, left, right)


def far_shots():
    for seed in range(40):
        for about in ABOUTS:
            yield spread_shot(seed, 12, 4, about, 10 ** (seed % 49 + 3))


def sign_at(side, offset):
    for sign, count in side:
        if offset < count:
            return sign
        offset -= count
    return 0


class StretchesOf(unittest.TestCase):
    def assert_form(self, told):
        self.assertIs(type(told), tuple)
        self.assertEqual(len(told), 3)
        for side in told[1:]:
            self.assertIs(type(side), list)
            for pair in side:
                self.assertIs(type(pair), tuple)
                self.assertEqual(len(pair), 2)
                self.assertGreaterEqual(pair[1], 1)
            self.assertTrue(all(first[0] != second[0] for first, second in zip(side, side[1:])))
            self.assertFalse(side and side[-1][0] == 0)

    def test_by_hand(self):
        self.assertEqual(stretches_of((0, 0, ())), (0, [], []))
        self.assertEqual(stretches_of((3, FAR, ())), (3, [], []))
        self.assertEqual(stretches_of((1, 5, ((5, 2),))), (1, [], [(2, 1)]))
        self.assertEqual(stretches_of((1, 5, ((4, 2),))), (1, [(2, 1)], []))
        self.assertEqual(stretches_of((1, 5, ((6, 2),))), (1, [], [(0, 1), (2, 1)]))
        self.assertEqual(stretches_of((1, 5, ((3, 2),))), (1, [(0, 1), (2, 1)], []))
        self.assertEqual(
            stretches_of((2, 0, ((-5, 1), (-4, 1), (-1, 3), (0, 3), (1, 3), (2, 1), (7, 1)))),
            (2, [(3, 1), (0, 2), (1, 2)], [(3, 2), (1, 1), (0, 4), (1, 1)]),
        )

    def test_a_mark_very_far_off(self):
        for about in ABOUTS:
            self.assertEqual(stretches_of((0, about, ((about + FAR, 1),))), (0, [], [(0, FAR), (1, 1)]))
            self.assertEqual(stretches_of((0, about, ((about - FAR, 1),))), (0, [(0, FAR - 1), (1, 1)], []))
            self.assertEqual(
                stretches_of((4, about, ((about - FAR, 2), (about - 1, 2), (about, 2), (about + FAR, 2)))),
                (4, [(2, 1), (0, FAR - 2), (2, 1)], [(2, 1), (0, FAR - 1), (2, 1)]),
            )

    def test_against_cells_told_one_by_one(self):
        for shot in near_shots():
            with self.subTest(shot=shot):
                told = stretches_of(shot)
                self.assert_form(told)
                self.assertEqual(told, plain_stretches(shot))

    def test_cells_about_each_mark_of_far_shots(self):
        for shot in far_shots():
            told = stretches_of(shot)
            self.assert_form(told)
            self.assertEqual(told[0], shot[0])
            state, place, marks = shot
            cells = dict(marks)
            places = {at + near for at in list(cells) + [place] for near in range(-3, 4)}
            for at in sorted(places):
                found = sign_at(told[2], at - place) if at >= place else sign_at(told[1], place - 1 - at)
                self.assertEqual(found, cells.get(at, 0), (shot, at))

    def test_shots_of_runs(self):
        for table in TABLES:
            for shot in plain_walk(table, (0, 0, ()), 60):
                told = stretches_of(shot)
                self.assert_form(told)
                self.assertEqual(told, plain_stretches(shot))

    def test_told_lists_are_the_askers_own(self):
        for shot in far_shots():
            words = repr(shot)
            told = stretches_of(shot)
            expected = copied(told)
            told[1].clear()
            told[2].append((0, 0))
            told[2].reverse()
            self.assertEqual(stretches_of(shot), expected)
            self.assertEqual(repr(shot), words)


class ShotOf(unittest.TestCase):
    def test_by_hand(self):
        self.assertEqual(shot_of((0, [], []), 0), (0, 0, ()))
        self.assertEqual(shot_of((9, [], []), -FAR), (9, -FAR, ()))
        self.assertEqual(shot_of((1, [], [(2, 1)]), 5), (1, 5, ((5, 2),)))
        self.assertEqual(shot_of((1, [(2, 1)], []), 5), (1, 5, ((4, 2),)))
        self.assertEqual(
            shot_of((2, [(3, 1), (0, 2), (1, 2)], [(3, 2), (1, 1), (0, 4), (1, 1)]), 0),
            (2, 0, ((-5, 1), (-4, 1), (-1, 3), (0, 3), (1, 3), (2, 1), (7, 1))),
        )
        self.assertEqual(
            shot_of((0, [(0, FAR), (1, 2)], [(0, FAR), (2, 1)]), 3),
            (0, 3, ((1 - FAR, 1), (2 - FAR, 1), (FAR + 3, 2))),
        )

    def test_back_to_the_shot(self):
        for shots in (near_shots(), far_shots()):
            for shot in shots:
                with self.subTest(shot=shot):
                    self.assertEqual(shot_of(stretches_of(shot), shot[1]), shot)

    def test_from_stretches_told_one_by_one(self):
        for shot in near_shots():
            self.assertEqual(shot_of(plain_stretches(shot), shot[1]), shot)

    def test_at_another_place_all_is_shifted(self):
        for shot in far_shots():
            for by in (1, -1, FAR, -FAR):
                shifted = (shot[0], shot[1] + by, tuple((at + by, sign) for at, sign in shot[2]))
                self.assertEqual(shot_of(stretches_of(shot), shot[1] + by), shifted)

    def test_ten_thousand_cells(self):
        told = shot_of((0, [(1, 5000)], [(2, 5000)]), FAR)
        assert_alike(self, told, (0, FAR, tuple((FAR + at, 1 if at < 0 else 2) for at in range(-5000, 5000))))

    def test_the_kinds(self):
        told = shot_of((0, [(1, 2)], [(2, 2), (0, 1), (1, 1)]), 0)
        self.assertIs(type(told), tuple)
        self.assertIs(type(told[2]), tuple)
        self.assertTrue(all(type(mark) is tuple and len(mark) == 2 for mark in told[2]))

    def test_any_state_and_any_sign_from_nought_on(self):
        for state in (0, 1, 11, 12, 500, FAR):
            self.assertEqual(shot_of((state, [], [(1, 1)]), 0), (state, 0, ((0, 1),)))
        for sign in (1, 7, 8, 500, FAR):
            self.assertEqual(shot_of((0, [(sign, 1)], [(sign, 1)]), 0), (0, 0, ((-1, sign), (0, sign))))

    def test_lists_and_tuples_are_alike_and_stay_as_they_were(self):
        for shot in near_shots():
            state, left, right = stretches_of(shot)
            for given in ((state, left, right), (state, tuple(left), tuple(right)), (state, tuple(left), right)):
                words = repr(given)
                self.assertEqual(shot_of(given, shot[1]), shot)
                self.assertEqual(repr(given), words)

    def test_lists_changed_afterwards_change_nothing(self):
        left = [(1, 2), (0, 1), (2, 1)]
        right = [(2, 3)]
        told = shot_of((1, left, right), 0)
        expected = (1, 0, ((-4, 2), (-2, 1), (-1, 1), (0, 2), (1, 2), (2, 2)))
        left.clear()
        right.append((1, 1))
        self.assertEqual(told, expected)
        self.assertEqual(shot_of((1, [(1, 2), (0, 1), (2, 1)], [(2, 3)]), 0), expected)


WRONG_SIDES = (
    [(1, 0)], [(1, -1)], [(1, -FAR)], [(0, 0), (1, 1)], [(0, -1), (1, 1)], [(1, 1), (2, 0)], [(1, 1), (2, 0), (1, 1)],
    [(1, 1), (2, -3), (1, 1)],
    [(1, 1), (1, 1)], [(1, 3), (1, 3)], [(1, 3), (1, 5)], [(2, 1), (1, 1), (1, 2)], [(0, 1), (0, 1), (1, 1)],
    [(0, FAR), (0, FAR), (1, 1)], [(1, 1), (1, 2), (2, 1)],
    [(0, 1)], [(0, FAR)], [(1, 1), (0, 1)], [(1, 1), (0, 1), (2, 3), (0, FAR)],
    [(-1, 1)], [(-FAR, 1)], [(1, 1), (-1, 1)], [(-1, 1), (1, 1)], [(1, 1), (-2, 1), (1, 1)],
)
# Forms that are not as the point tells them either.
WRONG_FORMS = (
    None, 0, "", [None], [()], [(1,)], [(1, 1, 1)], [[1, 1]], ["11"], [(True, 1)], [(1, True)], [(None, 1)],
    [(1, None)], [("1", 1)], [(1, "1")],
)


class RefusedStretches(unittest.TestCase):
    def assert_refused(self, stretches):
        for place in (0, -3, FAR):
            with self.subTest(stretches=stretches, place=place):
                assert_refused(self, NoStretches, shot_of, stretches, place)

    def test_a_state_below_nought(self):
        for state in (-1, -2, -FAR):
            self.assert_refused((state, [], []))
            self.assert_refused((state, [(1, 1)], [(2, 2)]))

    def test_what_is_no_state(self):
        for state in (True, False, None, "0", (), []):
            self.assert_refused((state, [], []))

    def test_wrong_sides(self):
        for wrong in WRONG_SIDES:
            for other in ([], [(1, 2)], [(0, 3), (2, 1)]):
                self.assert_refused((0, wrong, other))
                self.assert_refused((0, other, wrong))
                self.assert_refused((0, tuple(wrong), tuple(other)))
                self.assert_refused((0, tuple(other), tuple(wrong)))

    def test_beside_a_count_that_can_not_be_laid_out(self):
        for wrong in WRONG_SIDES:
            # The small count first: where that is not refused, the great one would be laid out without end.
            for count in (2, FAR):
                assert_refused(self, NoStretches, shot_of, (0, [(1, count)], wrong), 0)
                assert_refused(self, NoStretches, shot_of, (0, wrong, [(1, count)]), 0)

    def test_wrong_forms(self):
        for wrong in WRONG_FORMS:
            self.assert_refused((0, wrong, []))
            self.assert_refused((0, [], wrong))
        for wrong in ((), (0,), (0, []), (0, [], [], []), None, "000", 0, [0, [], []]):
            self.assert_refused(wrong)


if __name__ == "__main__":
    unittest.main()
