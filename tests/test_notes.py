import re
import unittest

from plain import (
    BEAVER_FOUR, BEAVER_THREE, BEAVER_TWO, COUNTS, FAR, GOES_RIGHT, STOPS_AT_ONCE, SWEEPS, TABLES, WRITES_LEFT, Spread,
    as_tuples, assert_refused, many_tables, spread_table,
)
from tapeproof.errors import NoMachine, NoText
from tapeproof.machines import Machine
from tapeproof.notes import drawn, read_machine, written_machine
from tapeproof.running import after, trail

SIXTY = "1" + "0" * 59
SIXTY_ONE = "1" + "0" * 60


def plain_text(table):
    return "\n".join(
        " ".join("-" if entry is None else "%d%s%d" % entry for entry in row) for row in table
    )


def sized_tables():
    """For each number of states from one to twelve and of signs from one to eight."""
    return [spread_table(3 * states + signs, states, signs) for states in range(1, 13) for signs in range(1, 9)]


class Written(unittest.TestCase):
    def test_by_hand(self):
        for table, text in (
            (STOPS_AT_ONCE, "-"), (GOES_RIGHT, "0r0"), (BEAVER_TWO, "1r1 1l1\n1l0 -"),
            (BEAVER_THREE, "1r1 -\n0r2 1r1\n1l2 1l0"), (WRITES_LEFT, "2l0 - 1r0"), ([[None] * 8], "- - - - - - - -"),
            ([[(0, "r", 1)], [None]], "0r1\n-"), ([[None, None], [None, None]], "- -\n- -"),
            ([[(0, "l", (state + 1) % 12)] for state in range(12)],
             "0l1\n0l2\n0l3\n0l4\n0l5\n0l6\n0l7\n0l8\n0l9\n0l10\n0l11\n0l0"),
        ):
            self.assertEqual(written_machine(Machine(table)), text)
            self.assertIs(type(written_machine(Machine(table))), str)
            self.assertEqual(read_machine(text).table, as_tuples(table))

    def test_the_very_text(self):
        for table in many_tables() + sized_tables():
            self.assertEqual(written_machine(Machine(table)), plain_text(table))

    def test_the_machine_stays(self):
        for table in TABLES:
            machine = Machine(table)
            text = written_machine(machine)
            self.assertEqual(written_machine(machine), text)
            self.assertEqual(machine.table, as_tuples(table))


class Read(unittest.TestCase):
    def test_read_and_written_again(self):
        for table in many_tables() + sized_tables():
            text = plain_text(table)
            self.assertEqual(written_machine(read_machine(text)), text)

    def test_the_table_with_all_its_parts(self):
        for table in many_tables() + sized_tables():
            machine = read_machine(written_machine(Machine(table)))
            self.assertIs(type(machine), Machine)
            self.assertEqual(repr(machine.table), repr(as_tuples(table)))
            for row in machine.table:
                self.assertIs(type(row), tuple)
                for entry in row:
                    kinds = entry and [type(entry)] + [type(thing) for thing in entry]
                    self.assertIn(kinds, (None, [tuple, int, str, int]))

    def test_the_same_text_twice(self):
        text = plain_text(BEAVER_TWO)
        self.assertEqual(read_machine(text).table, read_machine(text).table)


class ReadingCase(unittest.TestCase):
    def assert_no_text(self, text, line):
        with self.subTest(text=text):
            with self.assertRaises(NoText) as caught:
                read_machine(text)
            self.assertIs(type(caught.exception), NoText)
            self.assertEqual(caught.exception.line, line)
            self.assertIs(type(caught.exception.line), int)

    def assert_no_machine(self, text):
        with self.subTest(text=text):
            assert_refused(self, NoMachine, read_machine, text)


# Entries that are not as told.
WRONG_ENTRIES = [
    "", "--", "---", "-0", "0-", "-1r0", "1r-", "0", "1", "10", "r", "l", "0r", "r0", "1l", "l1", "rl", "1rl0", "1r0r",
    "1r0r1", "1l0l1", "1r0l1", "1lr0", "r1r0", "0rr0", "0ll0", "00", "00r0", "01r0", "0r00", "0r01", "1r00", "01r01",
    "000r0", "0r000", "+1r0", "-1r0", "1r+0", "1r-1", "0r+0", "-0r0", "0r-0", "1R0", "1L0", "0R0", "1x0", "1u0", "1 r0",
    "1r 0", "1_0r0", "1r1_0", "1.0r0", "1r0.0", "1e0r0", "0x1r0", "0b1r0", "ar0", "0ra", "1r0;", "1r0,", "(1r0)",
    "1,r,0", "1r0-", "-r-", "-r0", "0r-", "None", "none", "_", ".", "=", "~", "\\", "1r0\t", "\t1r0", "\t", "1\tr0",
    "1r0\r", "\r", "1r0\x0b", "1r0\x0c", "1r0\x1c", "1r0\x85", "1r0\u2028", "1r0\u2029", "1r0\xa0", "\xa0", "1r0\u3000",
    "1r0\x00", "\x00", "\ufeff1r0", "\u0661r0", "0r\u0660", "\xb9r0", "0r\xb2", "\u0967r0", "\uff11r0", "0r\uff10",
    "\u2460r0", "\U0001d7cfr0", "\u2212", "\u2013", "\u2014", "1\uff520", "1\u029f0", "\xbdr0", "\u4e00r0", "\u2160r0",
    "0" * 60 + "r0", "0r" + "0" * 60, "0" + SIXTY + "r0", SIXTY_ONE + "r0", "0r" + SIXTY_ONE, "9" * 61 + "l0",
    "0l" + "9" * 61, "9" * 4000 + "r0", "0r" + "9" * 4000, SIXTY_ONE + "r" + SIXTY_ONE,
]


class NotAsTold(ReadingCase):
    def test_one_entry_alone(self):
        for wrong in WRONG_ENTRIES:
            self.assert_no_text(wrong, 0)

    def test_an_entry_among_others_in_each_row(self):
        for wrong in WRONG_ENTRIES:
            if " " in wrong:
                continue
            for line in range(3):
                for at in range(3):
                    rows = [["-", "0r0", "1l2"], ["2r1", "-", "-"], ["0l0", "1r2", "2l2"]]
                    rows[line][at] = wrong
                    self.assert_no_text("\n".join(" ".join(row) for row in rows), line)

    def test_an_entry_less_or_more_than_the_first_row_has(self):
        self.assert_no_text("- -\n-", 1)
        self.assert_no_text("-\n- -", 1)
        self.assert_no_text("- -\n- - -", 1)
        self.assert_no_text("- -\n- -\n-", 2)
        self.assert_no_text("- -\n- -\n0r0 0r0 0r0\n-", 2)
        self.assert_no_text("0r0 0r1\n0r0 0r1\n0l1 1l0\n0r0", 3)
        self.assert_no_text("-\n0r0\n0r1 1r1\n1r1", 2)
        for states in range(2, 13):
            for line in range(1, states):
                for other in ("-", "- - -", "- - - -"):
                    rows = ["- -"] * states
                    rows[line] = other
                    self.assert_no_text("\n".join(rows), line)

    def test_blanks(self):
        for wrong in ("-  -", " - -", "- - ", " - - ", "-   -", "  - -", "- -  ", " ", "  ", "   "):
            self.assert_no_text(wrong, 0)
            self.assert_no_text("- -\n" + wrong, 1)
            self.assert_no_text(wrong + "\n- -", 0)
            self.assert_no_text("- -\n0r1 1l0\n" + wrong + "\n- -", 2)
        # Two blanks in the first row do not make it a row of three entries.
        self.assert_no_text("-  -\n- - -", 0)
        self.assert_no_text("- - -\n-  -", 1)

    def test_empty_rows(self):
        self.assert_no_text("", 0)
        self.assert_no_text("\n", 0)
        self.assert_no_text("\n\n", 0)
        self.assert_no_text("\n-", 0)
        self.assert_no_text("-\n", 1)
        self.assert_no_text("-\n\n", 1)
        self.assert_no_text("-\n\n-", 1)
        self.assert_no_text("0r1\n0r0\n", 2)
        self.assert_no_text("0r1 -\n0r0 -\n", 2)
        self.assert_no_text("0r1 -\n0r0 -\n\n-", 2)

    def test_a_line_end_at_the_end_of_any_text(self):
        for table in TABLES:
            text = plain_text(table)
            self.assert_no_text(text + "\n", len(table))
            self.assert_no_text("\n" + text, 0)
            self.assert_no_text(text + "\n\n", len(table))

    def test_other_line_ends(self):
        # Only a line feed ends a row: another sign stands in the row.
        for end in ("\r\n", "\r", "\x0b", "\x0c", "\x1c", "\x1d", "\x1e", "\x85", "\u2028", "\u2029", "\\n", "\t"):
            self.assert_no_text("-" + end + "-", 0)
            self.assert_no_text("- 0r0" + end + "- 0r0", 0)
            self.assert_no_text("- 0r0\n- 0r0" + end, 1)

    def test_the_first_of_several_rows(self):
        self.assert_no_text("-\nx\ny", 1)
        self.assert_no_text("x\ny\n-", 0)
        self.assert_no_text("-\n- -\nx", 1)
        self.assert_no_text("-\nx\n- -", 1)
        self.assert_no_text("x\n- -\n-", 0)
        self.assert_no_text("- -\n- x\n-\n\n", 1)
        # The first row is wrong, whatever the others have.
        self.assert_no_text("- x\n-\n-", 0)
        self.assert_no_text(" -\n-\n-", 0)

    def test_without_one_sign(self):
        """Each text with one of its signs taken away or put in again is refused or another machine."""
        table = [[(1, "r", 2), None, (2, "l", 0)], [(0, "l", 1), (1, "r", 1), None], [None, (2, "r", 2), (1, "l", 1)]]
        text = plain_text(table)
        refused = 0
        for at in range(len(text)):
            for other in (text[:at] + text[at + 1:], text[:at] + text[at] + text[at:]):
                try:
                    self.assertEqual(plain_text(read_machine(other).table), other)
                except NoText as told:
                    refused += 1
                    self.assertIn(told.line, (text[:at].count("\n"), text[:at].count("\n") + 1))
                except NoMachine:
                    self.assertIsNotNone(plain_rows(other))
        self.assertGreater(refused, len(text))

    def test_the_words_hold_no_large_number(self):
        for text in (SIXTY_ONE + "r0", "-\n0r" + SIXTY_ONE, SIXTY + "r0"):
            with self.assertRaises(ValueError) as caught:
                read_machine(text)
            self.assertNotIn("0" * 40, str(caught.exception))


def plain_rows(text):
    """The rows of a text that are all as told, or None."""
    number = "(?:0|[1-9][0-9]{0,59})"
    entry = f"(?:-|{number}[lr]{number})"
    rows = text.split("\n")
    if not all(re.fullmatch(f"{entry}(?: {entry})*", row, re.ASCII) for row in rows):
        return None
    return rows if len({row.count(" ") for row in rows}) == 1 else None


class ThenNoMachine(ReadingCase):
    def test_a_sign_that_is_none(self):
        for text in (
            "1r0", "2l0", "10r0", "1r0\n-", "- 2r0", "0r0 2l0", "- -\n2r1 -", "0r0 1r1\n0l0 9l1", SIXTY + "r0",
            "9" * 60 + "l0", "0r0 " + SIXTY + "r0", "- - -\n3r0 - -",
        ):
            self.assert_no_machine(text)

    def test_a_state_that_is_none(self):
        for text in (
            "0r1", "0l1", "0r2", "0r10", "0r12\n-", "- 1r1", "- -\n1r2 -", "0r0 1r1\n0l0 1l2", "0r" + SIXTY,
            "0l" + "9" * 60, "0r0 1r" + SIXTY, "0r0\n0r1\n0r3",
        ):
            self.assert_no_machine(text)

    def test_sixty_figures_and_sixty_one(self):
        for ahead, behind in (("", "r0"), ("0r", ""), ("- 1l0 ", "l1"), ("-\n0l", "")):
            line = ahead.count("\n")
            for figures in (1, 2, 59, 60):
                self.assert_no_machine(ahead + "7" * figures + behind)
            for figures in (61, 62, 100, 1000):
                self.assert_no_text(ahead + "7" * figures + behind, line)

    def test_where_both_are_due(self):
        # The first two rows are those of no machine; a later one is not as told.
        for text, line in (
            ("9r9 9r9\n9r9 9r9\n- x", 2), ("9r9\n", 1), ("9r9\n9r9\n- -", 2), ("9r9 -\n-", 1), ("9r0\n00r0", 1),
            (SIXTY + "r0\n" + SIXTY_ONE + "r0", 1), ("1r0 1R0", 0), ("5r5  5r5", 0),
        ):
            self.assert_no_text(text, line)
        self.assert_no_machine("9r9 9r9\n9r9 9r9\n- -")

    def test_all_texts_of_few_signs(self):
        told = {"machine": 0, "none": 0}
        for text in all_texts("-0r \n", 7):
            rows = plain_rows(text)
            if rows is None:
                self.assert_no_text(text, plain_line(text))
                told["none"] += 1
            else:
                self.assertEqual(written_machine(read_machine(text)), text)
                told["machine"] += 1
        self.assertGreater(min(told.values()), 10)


def plain_line(text):
    """The first row that is not as told: the least one with which the rows so far are none."""
    rows = text.split("\n")
    return min(line for line in range(len(rows)) if plain_rows("\n".join(rows[:line + 1])) is None)


def all_texts(signs, most):
    texts = [""]
    for text in texts:
        yield text
        if len(text) < most:
            texts += [text + sign for sign in signs]


class Drawn(unittest.TestCase):
    def assert_drawn(self, shot, expected):
        with self.subTest(shot=shot):
            before = repr(shot)
            self.assertEqual(drawn(shot), expected)
            self.assertIs(type(drawn(shot)), str)
            self.assertEqual(repr(shot), before)

    def test_no_marks(self):
        for place in (0, 1, -1, 17, FAR, -FAR, 10 ** 60 - 1, 1 - 10 ** 60):
            for state in (0, 1, 9, 10, 11):
                self.assert_drawn((state, place, ()), "[%d:0]" % state)

    def test_a_mark_at_its_own_place(self):
        for place in (0, 5, -5, FAR, -FAR):
            self.assert_drawn((2, place, ((place, 7),)), "[2:7]")

    def test_marks_on_one_side(self):
        self.assert_drawn((0, 0, ((1, 3),)), "[0:0]3")
        self.assert_drawn((0, 0, ((3, 3),)), "[0:0]003")
        self.assert_drawn((0, 0, ((-1, 3),)), "3[0:0]")
        self.assert_drawn((0, 0, ((-3, 3),)), "300[0:0]")
        self.assert_drawn((1, 4, ((0, 1), (1, 2), (3, 3))), "1203[1:0]")
        self.assert_drawn((1, -4, ((-4, 1), (-2, 2), (1, 3))), "[1:1]02003")

    def test_marks_on_both_sides(self):
        self.assert_drawn((2, 0, ((-1, 1), (0, 1), (1, 1))), "1[2:1]1")
        self.assert_drawn((2, 1, ((0, 1), (1, 1), (2, 1), (4, 7))), "1[2:1]107")
        self.assert_drawn((2, 0, ((-3, 4), (2, 5))), "400[2:0]05")
        self.assert_drawn((11, -6, ((-9, 1), (-6, 2), (-1, 3))), "100[11:2]00003")

    def test_no_blanks_beyond_the_marks_and_the_machine(self):
        # As 01[2:1]10, but for the blanks at both ends, which are neither marked nor the machine's.
        self.assert_drawn((2, 2, ((1, 1), (2, 1), (3, 1))), "1[2:1]1")
        self.assert_drawn((2, 2, ((0, 3), (1, 1), (2, 1), (3, 1), (5, 4))), "31[2:1]104")

    def test_far_places(self):
        for about in (FAR, -FAR, 10 ** 60 - 10, 10 - 10 ** 60, -2):
            marks = tuple((about + at, sign) for at, sign in ((-4, 1), (-2, 2), (0, 3), (3, 4)))
            self.assert_drawn((7, about, marks), "1020[7:3]004")
            self.assert_drawn((7, about + 1, marks), "10203[7:0]04")
            self.assert_drawn((7, about - 6, marks), "[7:0]010203004")
            self.assert_drawn((7, about + 5, marks), "102030040[7:0]")

    def test_states_of_two_figures(self):
        for state in range(12):
            self.assert_drawn((state, 0, ((-1, 5), (1, 6))), "5[%d:0]6" % state)

    def test_ten_thousand_cells(self):
        self.assert_drawn((3, 0, ((9999, 2),)), "[3:0]" + "0" * 9998 + "2")
        self.assert_drawn((3, 5000, ((0, 1), (9999, 2))), "1" + "0" * 4999 + "[3:0]" + "0" * 4998 + "2")
        marks = tuple((place, 1 + place % 7) for place in range(-5000, 5000))
        text = "".join(str(sign) for place, sign in marks)
        self.assert_drawn((10, -5000, marks), "[10:%s]" % text[0] + text[1:])

    def test_cell_by_cell(self):
        for seed in range(200):
            shot = near_shot(seed)
            cells = dict(shot[2])
            places = range(min([shot[1], *cells]), max([shot[1], *cells]) + 1)
            signs = {at: str(cells.get(at, 0)) for at in places}
            signs[shot[1]] = "[%d:%s]" % (shot[0], signs[shot[1]])
            self.assert_drawn(shot, "".join(signs.values()))

    def test_shots_of_runs(self):
        for table in (BEAVER_TWO, BEAVER_FOUR, COUNTS, SWEEPS):
            for shot in trail(Machine(table), 60):
                text = drawn(shot)
                ahead, _, rest = text.partition("[")
                own, _, behind = rest.partition("]")
                state, _, sign = own.partition(":")
                signs = ahead + sign + behind
                marks = tuple((shot[1] - len(ahead) + at, int(sign)) for at, sign in enumerate(signs) if sign != "0")
                self.assertEqual((int(state), shot[1], marks), shot)
        self.assertEqual(drawn(after(Machine(BEAVER_TWO), 5)[0]), "1[1:1]11")


def near_shot(seed):
    spread = Spread(seed)
    about = spread.below(100) - 50
    marks = [(about + at, spread.below(8)) for at in range(-spread.below(9), spread.below(9)) if spread.below(2)]
    return (spread.below(12), about + spread.below(15) - 7, tuple(mark for mark in marks if mark[1] != 0))


if __name__ == "__main__":
    unittest.main()
