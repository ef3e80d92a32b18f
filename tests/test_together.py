"""What holds over the whole program: its parts tell the same of one machine, and the interface is as told."""

import importlib
import inspect
import unittest

from plain import (
    BEAVER_THREE, COUNTS, FAR, FIRST, REFUSALS, SWEEPS, WRITES_LEFT, as_tuples, copied, many_tables, plain_stop,
    plain_walk, plain_word, spread_names, spread_table, staying_table,
)
from tapeproof.checker import takes
from tapeproof.fast import fast_after, fast_from
from tapeproof.hall import run_text, shown_text
from tapeproof.judging import counts_of, page, shown
from tapeproof.machines import Machine, signs_of, states_of
from tapeproof.notes import drawn, read_machine, written_machine
from tapeproof.paperturns import paper_mirrored, paper_renamed
from tapeproof.running import after, after_from, stops_at, trail
from tapeproof.shapes import laid_out
from tapeproof.stretches import shot_of, stretches_of
from tapeproof.turns import machine_of, mirrored, number_of, renamed
from tapeproof.walls import wall_of

INTERFACE = {
    "machines": {"Machine": "(table)", "states_of": "(machine)", "signs_of": "(machine)"},
    "turns": {
        "mirrored": "(machine)", "renamed": "(machine, states, signs)", "machine_of": "(states, signs, number)",
        "number_of": "(machine)",
    },
    "running": {
        "after": "(machine, steps)", "after_from": "(machine, shot, steps)", "stops_at": "(machine, most)",
        "trail": "(machine, steps)",
    },
    "stretches": {"stretches_of": "(shot)", "shot_of": "(stretches, place)"},
    "fast": {"fast_from": "(machine, stretches, steps, most)", "fast_after": "(machine, steps, most=5000)"},
    "rounds": {"takes_same": "(machine, paper)", "takes_shifted": "(machine, paper)"},
    "shapes": {"laid_out": "(shape, count)", "raised": "(shape)"},
    "growing": {"moved": "(machine, shape, move)", "takes_grow": "(machine, paper)"},
    "walls": {"wall_taken": "(machine, paper)", "wall_of": "(machine, width, most)"},
    "checker": {"takes": "(machine, paper)"},
    "makers": {"same_of": "(machine, most)", "shifted_of": "(machine, most)"},
    "judging": {
        "shown": "(machine, most, width=2)", "page": "(states, signs, first, many, most, width)",
        "counts_of": "(rows)",
    },
    "paperturns": {"paper_mirrored": "(paper)", "paper_renamed": "(paper, states, signs)"},
    "notes": {"written_machine": "(machine)", "drawn": "(shot)", "read_machine": "(text)"},
    "hall": {"run_text": "(machine_text, steps)", "shown_text": "(machine_text, most, width=2)"},
}


def numbered_machines():
    numbers = [(1, 1, number) for number in range(3)] + [(1, 2, number) for number in range(25)]
    numbers += [(2, 2, number) for number in range(11, 6561, 41)]
    numbers += [(3, 2, number) for number in range(1234, 13 ** 6, 49999)]
    numbers += [(2, 3, number) for number in range(4321, 13 ** 6, 99991)]
    return numbers


def machines():
    told = [machine_of(*given) for given in numbered_machines()]
    tables = many_tables() + [staying_table(seed, 4, 3) for seed in range(10)]
    # Of these a wall of width 2 or 3 alone is shown, nothing at all, or a coming round late in the run.
    for seed, states, signs in ((3112, 3, 2), (6003, 3, 2), (93658, 3, 2), (31864, 4, 3), (55012, 5, 3)):
        tables.append(spread_table(seed, states, signs))
    return told + [Machine(table) for table in tables]


class TheInterface(unittest.TestCase):
    def test_names_arguments_and_what_is_left_out(self):
        for part, names in INTERFACE.items():
            module = importlib.import_module("tapeproof." + part)
            for name, arguments in names.items():
                thing = getattr(module, name)
                self.assertEqual(str(inspect.signature(thing)), arguments, name)
                self.assertEqual(thing.__module__, "tapeproof." + part)

    def test_the_refusals(self):
        module = importlib.import_module("tapeproof.errors")
        for refusal in REFUSALS:
            self.assertIs(getattr(module, refusal.__name__), refusal)


class TheSameOfOneMachine(unittest.TestCase):
    def test_runs(self):
        for machine in machines():
            text = written_machine(machine)
            shots = trail(machine, 80)
            for steps in (-1, 0, 1, 2, 5, 20, 80):
                told = after(machine, steps)
                self.assertEqual(told[0], shots[max(0, min(steps, len(shots) - 1))])
                self.assertEqual(fast_after(machine, steps), told)
                self.assertEqual(fast_after(machine, steps, 100), told)
                self.assertEqual(after_from(machine, (0, 0, ()), steps), told)
                self.assertEqual(run_text(text, steps), "%s %d" % (drawn(told[0]), told[1]))
                told_fast = fast_from(machine, (0, [], []), steps, 100)
                self.assertEqual((shot_of(told_fast[0], told_fast[1]), told_fast[2]), told)

    def test_runs_that_go_on_from_a_shot(self):
        for machine in machines()[::3]:
            for steps in (1, 7, 30):
                shot, done = after(machine, steps)
                for more in (0, 1, 9):
                    self.assertEqual(after_from(machine, shot, more)[0], after(machine, steps + more)[0])
                    told = fast_from(machine, stretches_of(shot), more, 10)
                    self.assertEqual(shot_of(told[0], shot[1] + told[1]), after(machine, steps + more)[0])

    def test_stops(self):
        tried = {True: 0, False: 0}
        for machine in machines():
            text = written_machine(machine)
            for most in (0, 3, 40):
                steps = stops_at(machine, most)
                told = shown(machine, most)
                tried[steps is not None] += 1
                self.assertEqual(told[0] == "stops", steps is not None)
                self.assertEqual(shown_text(text, most).startswith("stops "), steps is not None)
                if steps is None:
                    self.assertEqual(after(machine, most)[1], most)
                    continue
                self.assertEqual(told, ("stops", steps))
                self.assertEqual(shown_text(text, most), "stops %d" % steps)
                # It comes at that step and no earlier.
                self.assertEqual(after(machine, steps), after(machine, steps + 100))
                self.assertEqual(after(machine, steps)[1], steps)
                self.assertEqual(fast_after(machine, FAR), after(machine, steps))
                self.assertEqual(len(plain_walk(machine.table, FIRST, 300)), steps + 1)
                for fewer in range(steps):
                    self.assertIsNone(stops_at(machine, fewer))
                    self.assertEqual(after(machine, fewer)[1], fewer)
        self.assertGreater(min(tried.values()), 100)

    def test_what_is_shown_and_the_book(self):
        for states, signs, number in numbered_machines():
            machine = machine_of(states, signs, number)
            for most, width in ((30, 2), (0, 1), (3, 0)):
                told = shown(machine, most, width)
                word = plain_word(told)
                self.assertEqual(page(states, signs, number, 1, most, width), [(number, word)])
                self.assertEqual(counts_of(page(states, signs, number, 1, most, width))[word], 1)
                text = shown_text(written_machine(machine), most, width)
                self.assertEqual(text.split(" ")[:2 if told[0] == "never" else 1][-1], word)

    def test_texts_and_numbers(self):
        for machine in machines():
            self.assertEqual(read_machine(written_machine(machine)).table, machine.table)
            given = (states_of(machine), signs_of(machine), number_of(machine))
            self.assertEqual(machine_of(*given).table, machine.table)


class Never(unittest.TestCase):
    def test_no_stop_in_some_hundred_steps(self):
        kinds = {}
        for machine in machines():
            for most, width in ((60, 2), (0, 3), (0, 1)):
                told = shown(machine, most, width)
                if told[0] == "never":
                    kinds[told[1][0]] = kinds.get(told[1][0], 0) + 1
                    self.assertIs(takes(machine, told[1]), True)
                    self.assertEqual(after(machine, 400)[1], 400)
                    self.assertIsNone(plain_stop(machine.table, 400))
        self.assertGreater(min(kinds[kind] for kind in ("same", "shifted", "wall")), 10)

    def test_no_machine_that_stops_takes_a_paper_of_another(self):
        papers = [shown(machine, most, 2)[1] for machine in machines()[::5] for most in (40, 0)]
        papers = [paper for paper in papers if isinstance(paper, tuple)]
        for machine in machines()[::7]:
            if stops_at(machine, 200) is not None:
                for paper in papers:
                    self.assertIs(takes(machine, paper), False)


class Turned(unittest.TestCase):
    def turns(self):
        """Each machine with one that is turned, and how its papers are turned."""
        for at, machine in enumerate(machines()):
            states = spread_names(at, states_of(machine))
            signs = spread_names(at + 1, signs_of(machine))
            yield machine, mirrored(machine), paper_mirrored
            yield machine, renamed(machine, states, signs), lambda paper: paper_renamed(paper, states, signs)

    def test_the_same_words(self):
        for machine, turned, _ in self.turns():
            for most, width in ((60, 2), (0, 2), (0, 0), (-1, 1)):
                text = shown_text(written_machine(machine), most, width)
                self.assertEqual(shown_text(written_machine(turned), most, width), text)
                self.assertEqual(plain_word(shown(turned, most, width)), plain_word(shown(machine, most, width)))
            self.assertEqual(stops_at(turned, 100), stops_at(machine, 100))

    def test_what_is_shown_is_taken_turned(self):
        taken = 0
        for machine, turned, turn in self.turns():
            for most in (60, 0):
                told = shown(machine, most)
                if told[0] == "never":
                    self.assertIs(takes(turned, turn(told[1])), True)
                    taken += 1
        self.assertGreater(taken, 300)

    def test_walls_are_the_least_ones_turned(self):
        for machine, turned, turn in self.turns():
            paper = wall_of(machine, 1, 100)
            if paper is not None:
                told = turn(paper)
                expected = told[:2] + tuple(sorted(things) for things in told[2:])
                self.assertEqual(wall_of(turned, 1, 100), expected)


class TheAskersOwn(unittest.TestCase):
    """What is told, changed, is told again as it was."""

    def changed(self, told):
        if isinstance(told, list):
            told.append("more")
            told.reverse()
        elif isinstance(told, dict):
            told["more"] = 1
        elif isinstance(told, tuple):
            for thing in told:
                self.changed(thing)

    def test_told_again(self):
        for table in (SWEEPS, COUNTS, BEAVER_THREE, WRITES_LEFT):
            machine = Machine(table)
            shot = after(machine, 9)[0]
            stretches = stretches_of(shot)
            rows = [(0, "same"), (1, "open")]
            asked = [
                lambda: trail(machine, 5), lambda: stretches_of(shot), lambda: fast_from(machine, stretches, 4, 9),
                lambda: wall_of(machine, 1, 99), lambda: shown(machine, 0), lambda: page(2, 2, 44, 3, 5, 1),
                lambda: page(2, 2, 44, 0, 5, 1), lambda: counts_of(rows), lambda: counts_of([]),
                lambda: paper_mirrored(("wall", 1, [(0,)], [(0,)], [((0,), 0, 0, (0,))])),
                lambda: paper_renamed(("wall", 1, [(0,)], [(0,)], [((0,), 0, 0, (0,))]), [0], [0]),
            ]
            before = [repr(ask()) for ask in asked]
            for ask in asked:
                self.changed(ask())
            self.assertEqual([repr(ask()) for ask in asked], before)
            self.assertEqual(machine.table, as_tuples(table))

    def test_lists_handed_in_are_not_kept(self):
        table = copied(BEAVER_THREE)
        machine = Machine(table)
        names = [0, 2, 1]
        turned = renamed(machine, names, [0, 1])
        before = turned.table
        table[0][0] = None
        table.clear()
        names.reverse()
        self.assertEqual(machine.table, as_tuples(BEAVER_THREE))
        self.assertEqual(turned.table, before)
        shape = (0, "r", [("one", 1)], [("many", (1, 2), 1)])
        told = laid_out(shape, 1)
        shape[2].clear()
        shape[3].clear()
        self.assertEqual(told, (0, 0, ((-1, 1), (0, 1), (1, 2), (2, 1), (3, 2))))


if __name__ == "__main__":
    unittest.main()
