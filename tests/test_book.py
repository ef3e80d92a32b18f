import unittest

from plain import BEAVER_TWO, FAR, SWEEPS, TO_AND_FRO, assert_refused, copied, plain_shown, plain_word, spread_table
from tapeproof.errors import NoNumber
from tapeproof.judging import counts_of, page, shown
from tapeproof.machines import Machine
from tapeproof.turns import machine_of, number_of

WORDS_OF_THE_BOOK = ("stops", "same", "shifted", "wall", "open")

# How many machines there are of so many states and signs, told by hand.
HOW_MANY = {(1, 1): 3, (1, 2): 5 ** 2, (2, 1): 5 ** 2, (2, 2): 9 ** 4, (3, 2): 13 ** 6, (2, 3): 13 ** 6}


def plain_page(states, signs, first, many, most, width):
    numbers = range(first, min(first + many, HOW_MANY[states, signs]))
    tables = [(number, machine_of(states, signs, number).table) for number in numbers]
    return [(number, plain_word(plain_shown(table, most, width))) for number, table in tables]


class PageCase(unittest.TestCase):
    def assert_page(self, given, expected):
        with self.subTest(given=given):
            told = page(*given)
            self.assertEqual(told, expected)
            self.assertIs(type(told), list)
            for row in told:
                self.assertEqual([type(row)] + [type(thing) for thing in row], [tuple, int, str])


class Rows(PageCase):
    def test_all_machines_of_one_state_and_one_sign(self):
        # They stop at once, go to the left and go to the right.
        self.assert_page((1, 1, 0, 3, 200, 2), [(0, "stops"), (1, "shifted"), (2, "shifted")])
        self.assert_page((1, 1, 0, 3, 1, 2), [(0, "stops"), (1, "shifted"), (2, "shifted")])
        self.assert_page((1, 1, 0, 3, 0, 2), [(0, "stops"), (1, "wall"), (2, "wall")])
        self.assert_page((1, 1, 0, 3, 0, 1), [(0, "stops"), (1, "wall"), (2, "wall")])
        self.assert_page((1, 1, 0, 3, 0, 0), [(0, "stops"), (1, "open"), (2, "open")])
        self.assert_page((1, 1, 0, 3, -1, 2), [(0, "open"), (1, "wall"), (2, "wall")])
        self.assert_page((1, 1, 0, 3, -1, -1), [(0, "open"), (1, "open"), (2, "open")])

    def test_each_word(self):
        for table, most, width, word in (
            (BEAVER_TWO, 5, 2, "stops"), (BEAVER_TWO, 4, 2, "open"), (TO_AND_FRO, 4, 2, "same"),
            ([[(1, "r", 0), None], [None, None]], 1, 2, "shifted"), (SWEEPS, 60, 1, "wall"), (SWEEPS, 60, 0, "open"),
        ):
            number = number_of(Machine(table))
            self.assert_page((2, 2, number, 1, most, width), [(number, word)])

    def test_drawn_machines_of_two_states_and_two_signs(self):
        words = set()
        for first in range(0, 6561, 401):
            expected = plain_page(2, 2, first, 20, 10, 2)
            self.assert_page((2, 2, first, 20, 10, 2), expected)
            words.update(word for number, word in expected)
        for most, width in ((3, 0), (2, 1), (0, 2), (-1, 1)):
            expected = plain_page(2, 2, 4990, 30, most, width)
            self.assert_page((2, 2, 4990, 30, most, width), expected)
            words.update(word for number, word in expected)
        self.assertEqual(words, set(WORDS_OF_THE_BOOK))

    def test_machines_of_other_sizes(self):
        for states, signs in HOW_MANY:
            for first in (0, HOW_MANY[states, signs] // 2, HOW_MANY[states, signs] - 3):
                given = (states, signs, first, 10, 8, 2)
                self.assert_page(given, plain_page(*given))

    def test_by_what_is_shown(self):
        for most, width in ((200, 2), (20, 3), (0, 1)):
            rows = page(2, 2, 1300, 50, most, width)
            self.assertEqual([number for number, word in rows], list(range(1300, 1350)))
            for number, word in rows:
                told = shown(machine_of(2, 2, number), most, width)
                self.assertEqual(word, told[1][0] if told[0] == "never" else told[0])

    def test_width_is_handed_on(self):
        # A wall of width 2 alone, and one of width 3 alone.
        for table, width in ((spread_table(3112, 3, 2), 2), (spread_table(6003, 3, 2), 3)):
            number = number_of(Machine(table))
            words = [page(3, 2, number, 1, 60, wide)[0][1] for wide in range(5)]
            self.assertEqual(words, ["open"] * width + ["wall"] * (5 - width))

    def test_large_numbers(self):
        # Sixty figures at most: machines of more states and signs than have numbers so small.
        for first in (0, 10 ** 59, 10 ** 60 - 3):
            rows = page(12, 8, first, 3, 10, 1)
            self.assertEqual([number for number, word in rows], [first, first + 1, first + 2])
            for number, word in rows:
                table = machine_of(12, 8, number).table
                self.assertEqual(word, plain_word(plain_shown(table, 10, 1)))


class Many(PageCase):
    def test_none_where_many_is_below_one(self):
        for many in (0, -1, -2, -50, -FAR):
            for first in (0, 1, 2):
                self.assert_page((1, 1, first, many, 10, 2), [])
            for first in (0, 17, 6560):
                self.assert_page((2, 2, first, many, 10, 2), [])

    def test_fewer_than_there_are(self):
        for many in (1, 2, 3, 49, 50):
            rows = page(2, 2, 100, many, 5, 1)
            self.assertEqual([number for number, word in rows], list(range(100, 100 + many)))

    def test_as_many_as_there_are(self):
        whole = plain_page(1, 2, 0, 25, 5, 2)
        self.assertEqual(len(whole), 25)
        for first in range(25):
            for many in (25 - first, 26 - first, 50, 1000, FAR):
                self.assert_page((1, 2, first, many, 5, 2), whole[first:])
            self.assert_page((1, 2, first, 24 - first, 5, 2), whole[first:24])

    def test_the_last_machine(self):
        for states, signs in HOW_MANY:
            last = HOW_MANY[states, signs] - 1
            for many in (1, 2, 50, FAR):
                rows = page(states, signs, last, many, 5, 1)
                self.assertEqual([number for number, word in rows], [last])
            self.assertEqual([number for number, word in page(states, signs, last - 1, 50, 5, 1)], [last - 1, last])
            self.assertEqual([number for number, word in page(states, signs, last - 1, 1, 5, 1)], [last - 1])

    def test_pages_one_behind_the_other_are_one_page(self):
        whole = page(2, 2, 2600, 40, 20, 2)
        for many in (1, 7, 20):
            parts = [page(2, 2, first, min(many, 2640 - first), 20, 2) for first in range(2600, 2640, many)]
            self.assertEqual([row for part in parts for row in part], whole)


class Refusals(unittest.TestCase):
    MANIES = (-FAR, -1, 0, 1, 2, 50, FAR)

    def assert_no_number(self, states, signs, first):
        for many in self.MANIES:
            for most, width in ((10, 2), (0, 0), (-1, -1)):
                with self.subTest(states=states, signs=signs, first=first, many=many):
                    assert_refused(self, NoNumber, page, states, signs, first, many, most, width)

    def test_a_first_below_nought(self):
        for first in (-1, -2, -50, -FAR):
            self.assert_no_number(1, 1, first)
            self.assert_no_number(2, 2, first)

    def test_a_first_behind_the_last(self):
        for (states, signs), many in HOW_MANY.items():
            for first in (many, many + 1, many * 2, FAR, 10 ** 59):
                self.assert_no_number(states, signs, first)

    def test_states_or_signs_below_one(self):
        for states, signs in (
            (0, 1), (1, 0), (0, 0), (-1, 1), (1, -1), (-1, -1), (-2, -2), (0, 5), (-FAR, 2), (2, -FAR),
        ):
            for first in (0, 1, -1, FAR):
                self.assert_no_number(states, signs, first)


class Counts(unittest.TestCase):
    def assert_counts(self, rows, *expected):
        told = counts_of(rows)
        self.assertIs(type(told), dict)
        self.assertEqual(told, dict(zip(WORDS_OF_THE_BOOK, expected)))
        self.assertTrue(all(type(many) is int for many in told.values()))

    def test_of_an_empty_list(self):
        self.assert_counts([], 0, 0, 0, 0, 0)
        self.assert_counts((), 0, 0, 0, 0, 0)

    def test_each_word(self):
        self.assert_counts([(0, "stops")], 1, 0, 0, 0, 0)
        self.assert_counts([(0, "same")], 0, 1, 0, 0, 0)
        self.assert_counts([(0, "shifted")], 0, 0, 1, 0, 0)
        self.assert_counts([(0, "wall")], 0, 0, 0, 1, 0)
        self.assert_counts([(0, "open")], 0, 0, 0, 0, 1)

    def test_how_often(self):
        rows = [(number, word) for number, word in enumerate(WORDS_OF_THE_BOOK * 3)]
        self.assert_counts(rows, 3, 3, 3, 3, 3)
        self.assert_counts(tuple(rows[:7]), 2, 2, 1, 1, 1)
        # Numbers that stand there twice, and in any order.
        self.assert_counts([(5, "open"), (5, "open"), (-1, "wall"), (FAR, "open"), (0, "same")], 0, 1, 0, 1, 3)

    def test_of_pages(self):
        for given in ((1, 1, 0, 3, 10, 2), (2, 2, 1300, 50, 20, 2), (2, 2, 4990, 50, 2, 1), (1, 2, 0, 0, 5, 1)):
            rows = page(*given)
            words = [word for number, word in rows]
            self.assert_counts(rows, *[words.count(word) for word in WORDS_OF_THE_BOOK])
        self.assert_counts(page(1, 1, 0, 3, 10, 2), 1, 0, 2, 0, 0)

    def test_the_whole_book_of_one_state_and_two_signs(self):
        words = [plain_word(plain_shown(machine_of(1, 2, number).table, 5, 2)) for number in range(25)]
        self.assert_counts(page(1, 2, 0, 25, 5, 2), *[words.count(word) for word in WORDS_OF_THE_BOOK])


class WhatIsTold(unittest.TestCase):
    def test_pages_changed_and_told_again(self):
        given = (2, 2, 1330, 12, 20, 2)
        first = page(*given)
        before = copied(first)
        first.clear()
        self.assertEqual(page(*given), before)
        second = page(*given)
        second.reverse()
        second.append((0, "never"))
        self.assertEqual(page(*given), before)

    def test_empty_pages_changed_and_told_again(self):
        page(1, 1, 0, 0, 5, 1).append((0, "stops"))
        self.assertEqual(page(1, 1, 0, 0, 5, 1), [])
        self.assertEqual(page(1, 1, 2, -1, 5, 1), [])

    def test_counts_changed_and_told_again(self):
        rows = page(1, 1, 0, 3, 10, 2)
        for given in (rows, []):
            first = counts_of(given)
            before = dict(first)
            first["stops"] = 99
            first["never"] = 1
            first.pop("open")
            self.assertEqual(counts_of(given), before)
        self.assertEqual(set(counts_of([])), set(WORDS_OF_THE_BOOK))

    def test_the_rows_handed_in_stay(self):
        rows = page(2, 2, 1330, 12, 20, 2)
        before = copied(rows)
        told = counts_of(rows)
        counted = dict(told)
        self.assertEqual(rows, before)
        rows.clear()
        self.assertEqual(told, counted)


if __name__ == "__main__":
    unittest.main()
