import unittest

from plain import (
    BEAVER_FOUR, BEAVER_THREE, BEAVER_TWO, FAR, FIRST, STOPS_AT_ONCE, TABLES, assert_refused, many_tables, plain_shown,
    plain_walk, plain_word, spread_table,
)
from tapeproof.errors import NoMachine, NoText
from tapeproof.hall import run_text, shown_text
from tapeproof.judging import shown
from tapeproof.machines import Machine
from tapeproof.notes import drawn, read_machine, written_machine
from tapeproof.running import after
from tapeproof.turns import machine_of

BEAVER_TEXT = "1r1 1l1\n1l0 -"

# Each with the row of which NoText tells.
NO_TEXTS = [
    ("", 0), ("x", 0), ("\n", 0), ("-\n", 1), (" -", 0), ("- ", 0), ("-  -", 0), ("- -\n-", 1), ("-\n- -", 1),
    ("1r1 1l1\n1l0 -\n", 2), ("1r1 1l1\n1L0 -", 1), ("1r1 1l1\n1l0 - -", 1), ("01r0 -", 0), ("0r0 -\n0r00 -", 1),
    ("-\n-\n-\n+0r0", 3), ("0r0\n0r" + "1" * 61, 1), ("9r9\n9r9\n", 2), ("0r0\r\n0r0", 0),
]
NO_MACHINES = ["1r0", "0r1", "2r0 -", "- -\n- 0l2", "0r" + "1" * 60, "9" * 60 + "l0"]


def some_tables():
    tables = [machine_of(1, 2, number).table for number in range(25)]
    tables += [machine_of(2, 2, number).table for number in range(0, 6561, 97)]
    return tables + many_tables()


class RunText(unittest.TestCase):
    def test_by_hand(self):
        for steps, text in (
            (0, "[0:0] 0"), (1, "1[1:0] 1"), (2, "[0:1]1 2"), (3, "[1:0]11 3"), (4, "[0:0]111 4"), (5, "1[1:1]11 5"),
            (6, "1[1:1]11 5"), (100, "1[1:1]11 5"), (5000, "1[1:1]11 5"), (-1, "[0:0] 0"), (-FAR, "[0:0] 0"),
        ):
            self.assertEqual(run_text(BEAVER_TEXT, steps), text)
        self.assertEqual(run_text("-", 7), "[0:0] 0")
        self.assertEqual(run_text("0r0", 7), "[0:0] 7")
        self.assertEqual(run_text("2l0 - 1r0", 3), "[0:0]222 3")

    def test_the_drawn_shot_a_blank_and_the_steps(self):
        for table in some_tables():
            text = written_machine(Machine(table))
            for steps in (-5, -1, 0, 1, 2, 3, 7, 20, 61):
                shots = plain_walk(table, FIRST, steps)
                self.assertEqual(run_text(text, steps), "%s %d" % (drawn(shots[-1]), len(shots) - 1))

    def test_steps_behind_the_stop(self):
        for table, steps in ((STOPS_AT_ONCE, 0), (BEAVER_TWO, 5), (BEAVER_THREE, 13), (BEAVER_FOUR, 106)):
            text = written_machine(Machine(table))
            told = run_text(text, steps)
            self.assertTrue(told.endswith(" %d" % steps))
            for more in (steps + 1, steps + 2, 200, 5000):
                self.assertEqual(run_text(text, more), told)
            if steps > 0:
                self.assertTrue(run_text(text, steps - 1).endswith(" %d" % (steps - 1)))

    def test_five_thousand_steps(self):
        self.assertEqual(run_text("1r0 -", 5000), "1" * 5000 + "[0:0] 5000")
        self.assertEqual(run_text("1l0 -", 5000), "[0:0]" + "1" * 5000 + " 5000")

    def test_states_of_two_figures(self):
        text = "\n".join("1r%d -" % min(state + 1, 11) for state in range(12))
        self.assertEqual(run_text(text, 10), "1" * 10 + "[10:0] 10")
        self.assertEqual(run_text(text, 12), "1" * 12 + "[11:0] 12")


class ShownText(unittest.TestCase):
    def test_the_five_forms(self):
        sweeps = "1r1 1l0\n1l0 1r1"
        for text, most, width, expected in (
            (BEAVER_TEXT, 5, 2, "stops 5"), (BEAVER_TEXT, 200, 0, "stops 5"), ("-", 0, 2, "stops 0"),
            ("1r1 0r1\n0l0 0l0", 200, 2, "never same 0 4"), ("0r1\n0r2\n0r3\n0l2", 9, 2, "never same 2 4"),
            ("0r0", 200, 2, "never shifted 0 1"), ("0l1\n0l2\n0r3\n0r4\n0l2", 9, 1, "never shifted 2 5"),
            (sweeps, 60, 1, "never wall 1 9"), (sweeps, 60, 3, "never wall 1 9"), ("0r0", 0, 2, "never wall 1 1"),
            (sweeps, 60, 0, "open"), (sweeps, 60, -1, "open"), (BEAVER_TEXT, 4, 2, "open"), ("-", -1, 2, "open"),
        ):
            self.assertEqual(shown_text(text, most, width), expected)

    def test_walls_of_other_widths(self):
        two = written_machine(Machine(spread_table(3112, 3, 2)))
        three = written_machine(Machine(spread_table(6003, 3, 2)))
        self.assertEqual([shown_text(two, 100, width) for width in range(4)], ["open"] * 2 + ["never wall 2 20"] * 2)
        self.assertEqual([shown_text(three, 100, width) for width in range(4)], ["open"] * 3 + ["never wall 3 17"])
        just = written_machine(Machine(spread_table(41246, 4, 4)))
        self.assertEqual(shown_text(just, 100, 1), "never wall 1 200")

    def test_width_left_out_is_two(self):
        two = written_machine(Machine(spread_table(3112, 3, 2)))
        three = written_machine(Machine(spread_table(6003, 3, 2)))
        self.assertEqual(shown_text(two, 100), "never wall 2 20")
        self.assertEqual(shown_text(three, 100), "open")
        self.assertEqual(shown_text(machine_text=three, most=100, width=3), "never wall 3 17")

    def test_as_shown_plainly(self):
        forms = {}
        for table in some_tables():
            text = written_machine(Machine(table))
            for most, width in ((12, 2), (0, 2), (1, 0), (-1, 1)):
                told = plain_shown(table, most, width)
                word = plain_word(told)
                expected = {
                    "stops": lambda: "stops %d" % told[1],
                    "same": lambda: "never same %d %d" % told[1][1:],
                    "shifted": lambda: "never shifted %d %d" % told[1][1:],
                    "wall": lambda: "never wall %d %d" % (told[1][1], len(told[1][4])),
                    "open": lambda: "open",
                }[word]()
                self.assertEqual(shown_text(text, most, width), expected)
                forms[word] = forms.get(word, 0) + 1
        self.assertEqual(len(forms), 5)
        self.assertGreater(min(forms.values()), 3)

    def test_as_shown(self):
        for table in some_tables():
            machine = Machine(table)
            told = shown(machine, 200)
            text = shown_text(written_machine(machine), 200)
            if told[0] == "stops":
                self.assertEqual(text, "stops %d" % told[1])
            else:
                self.assertEqual(text.split(" ")[:2], [told[0]] + ([told[1][0]] if told[1] else []))


class Refusals(unittest.TestCase):
    def calls(self):
        return [
            lambda text: run_text(text, 5), lambda text: run_text(text, -1), lambda text: shown_text(text, 5),
            lambda text: shown_text(text, 5, 1), lambda text: shown_text(text, -1, -1), read_machine,
        ]

    def test_as_reading_does_with_the_same_row(self):
        for call in self.calls():
            for text, line in NO_TEXTS:
                with self.subTest(text=text):
                    with self.assertRaises(NoText) as caught:
                        call(text)
                    self.assertIs(type(caught.exception), NoText)
                    self.assertEqual(caught.exception.line, line)

    def test_then_with_no_machine(self):
        for call in self.calls():
            for text in NO_MACHINES:
                with self.subTest(text=text):
                    assert_refused(self, NoMachine, call, text)

    def test_nothing_else_is_refused(self):
        for text in ("-", "0r0", BEAVER_TEXT):
            for number in (-FAR, -1, 0, 1, 2):
                self.assertIs(type(run_text(text, number)), str)
                for width in (-FAR, -1, 0, 1, 2, 3):
                    self.assertIs(type(shown_text(text, number, width)), str)


class WhatIsTold(unittest.TestCase):
    def test_the_same_again(self):
        for table in TABLES:
            text = written_machine(Machine(table))
            self.assertEqual(run_text(text, 30), run_text(text, 30))
            self.assertEqual(shown_text(text, 30), shown_text(text, 30))
            self.assertEqual(run_text(text, 30).split(" ")[0], drawn(after(Machine(table), 30)[0]))


if __name__ == "__main__":
    unittest.main()
