import unittest

from plain import (
    BEAVER_FOUR, COUNTS, GOES_RIGHT, as_tuples, assert_refused, many_tables, plain_walk, spread_names, spread_table,
)
from tapeproof.errors import NoNames, NoNumber
from tapeproof.machines import Machine, signs_of, states_of
from tapeproof.running import after, stops_at
from tapeproof.turns import machine_of, mirrored, number_of, renamed

EXCHANGED = {"l": "r", "r": "l"}


def turned_back(names):
    return [names.index(number) for number in range(len(names))]


def number_by_the_sum(table):
    states = len(table)
    signs = len(table[0])
    values = 2 * states * signs + 1
    entries = [entry for row in table for entry in row]
    number = 0
    for place, entry in enumerate(entries):
        if entry is not None:
            write, way, following = entry
            number += (1 + (write * 2 + "lr".index(way)) * states + following) * values ** place
    return number


def greatest_number(states, signs):
    return (2 * states * signs + 1) ** (states * signs) - 1


def wrong_names(many):
    good = list(range(many))
    wrong = [
        good + [many], good + [0], good[:-1], [], good[:-1] + [many], good[:-1] + [many + 7], good[:-1] + [10 ** 60],
        good[:-1] + [-1], [-1] + good[1:], [False] + good[1:], good + [True], [many] + good[1:],
    ]
    if many > 1:
        wrong += [
            good[:-1] + [0], [1, 0] + good[2:], good[1:] + [0], [0, True] + good[2:], [0, False] + good[2:],
            good[1:], [0, -1] + good[2:], list(reversed(good)), good + [many - 1], [1] + good[1:],
        ]
    if many > 2:
        wrong += [[0, 1, 1] + good[3:], [0, 2, True] + good[3:], good[:-1] + [1], [2, 1, 0] + good[3:]]
    return wrong


class Mirrored(unittest.TestCase):
    def test_exchanges_the_ways_and_nothing_else(self):
        for table in many_tables():
            machine = mirrored(Machine(table))
            self.assertIsInstance(machine, Machine)
            for row, turned in zip(table, machine.table, strict=True):
                for entry, other in zip(row, turned, strict=True):
                    if entry is None:
                        self.assertIsNone(other)
                    else:
                        self.assertEqual(other, (entry[0], EXCHANGED[entry[1]], entry[2]))

    def test_twice_is_the_machine(self):
        for table in many_tables():
            self.assertEqual(mirrored(mirrored(Machine(table))).table, as_tuples(table))

    def test_the_machine_stays_as_it_was(self):
        machine = Machine(COUNTS)
        mirrored(machine)
        self.assertEqual(machine.table, as_tuples(COUNTS))


class Renamed(unittest.TestCase):
    def test_by_hand(self):
        machine = Machine([
            [(1, "r", 1), (2, "l", 2), None],
            [(0, "l", 0), (1, "r", 1), (2, "r", 2)],
            [None, (0, "r", 1), (1, "l", 0)],
        ])
        # State 1 becomes 2 and 2 becomes 1, the signs stay.
        self.assertEqual(renamed(machine, [0, 2, 1], [0, 1, 2]).table, (
            ((1, "r", 2), (2, "l", 1), None),
            (None, (0, "r", 2), (1, "l", 0)),
            ((0, "l", 0), (1, "r", 2), (2, "r", 1)),
        ))
        # Sign 1 becomes 2 and 2 becomes 1, the states stay.
        self.assertEqual(renamed(machine, [0, 1, 2], [0, 2, 1]).table, (
            ((2, "r", 1), None, (1, "l", 2)),
            ((0, "l", 0), (1, "r", 2), (2, "r", 1)),
            (None, (2, "l", 0), (0, "r", 1)),
        ))

    def test_not_by_the_turned_lists(self):
        # 1 becomes 2, 2 becomes 3, 3 becomes 1: round, so that the list and the turned one differ.
        machine = Machine([[(state, "l", state)] * 4 for state in range(4)])
        names = [0, 2, 3, 1]
        for state, row in enumerate(machine.table):
            turned = renamed(machine, names, names)
            self.assertEqual(turned.table[names[state]], ((names[state], "l", names[state]),) * 4)

    def test_entry_by_entry(self):
        for seed, table in enumerate(many_tables()):
            states = spread_names(seed, len(table))
            signs = spread_names(seed + 1000, len(table[0]))
            machine = renamed(Machine(table), states, signs)
            self.assertIsInstance(machine, Machine)
            self.assertEqual((states_of(machine), signs_of(machine)), (len(table), len(table[0])))
            for state, row in enumerate(table):
                for sign, entry in enumerate(row):
                    other = machine.table[states[state]][signs[sign]]
                    if entry is None:
                        self.assertIsNone(other)
                    else:
                        self.assertEqual(other, (signs[entry[0]], entry[1], states[entry[2]]))

    def test_back_by_the_turned_lists_is_the_machine(self):
        for seed, table in enumerate(many_tables()):
            states = spread_names(seed, len(table))
            signs = spread_names(seed + 1000, len(table[0]))
            machine = renamed(renamed(Machine(table), states, signs), turned_back(states), turned_back(signs))
            self.assertEqual(machine.table, as_tuples(table))

    def test_lists_and_tuples_are_alike_and_stay_as_they_were(self):
        machine = Machine(BEAVER_FOUR)
        states = [0, 3, 1, 2]
        signs = [0, 1]
        told = renamed(machine, states, signs)
        self.assertEqual((states, signs), ([0, 3, 1, 2], [0, 1]))
        self.assertEqual(renamed(machine, tuple(states), tuple(signs)).table, told.table)
        self.assertEqual(machine.table, as_tuples(BEAVER_FOUR))
        before = told.table
        states[1] = 1
        signs.clear()
        self.assertEqual(told.table, before)

    def test_refused_names(self):
        for states, signs in ((1, 1), (1, 3), (3, 1), (2, 2), (3, 2), (2, 3), (4, 5), (12, 8)):
            machine = Machine(spread_table(3, states, signs))
            for wrong in wrong_names(states):
                with self.subTest(states=wrong):
                    assert_refused(self, NoNames, renamed, machine, wrong, list(range(signs)))
                    assert_refused(self, NoNames, renamed, machine, tuple(wrong), tuple(range(signs)))
            for wrong in wrong_names(signs):
                with self.subTest(signs=wrong):
                    assert_refused(self, NoNames, renamed, machine, list(range(states)), wrong)
                    assert_refused(self, NoNames, renamed, machine, tuple(range(states)), tuple(wrong))
            assert_refused(self, NoNames, renamed, machine, [], [])

    def test_states_and_signs_are_not_exchanged(self):
        machine = Machine(spread_table(3, 2, 3))
        renamed(machine, [0, 1], [0, 2, 1])
        assert_refused(self, NoNames, renamed, machine, [0, 2, 1], [0, 1])


class TurnedMachinesRun(unittest.TestCase):
    STEPS = 60

    def test_mirrored_at_turned_places(self):
        for table in many_tables():
            machine = mirrored(Machine(table))
            walked = plain_walk(table, (0, 0, ()), self.STEPS)
            for steps in range(self.STEPS + 1):
                done = min(steps, len(walked) - 1)
                state, place, marks = walked[done]
                turned = (state, -place, tuple((-at, sign) for at, sign in reversed(marks)))
                self.assertEqual(after(machine, steps), (turned, done))

    def test_renamed_at_the_same_places(self):
        for seed, table in enumerate(many_tables()):
            states = spread_names(seed, len(table))
            signs = spread_names(seed + 1000, len(table[0]))
            machine = renamed(Machine(table), states, signs)
            walked = plain_walk(table, (0, 0, ()), self.STEPS)
            for steps in range(self.STEPS + 1):
                done = min(steps, len(walked) - 1)
                state, place, marks = walked[done]
                turned = (states[state], place, tuple((at, signs[sign]) for at, sign in marks))
                self.assertEqual(after(machine, steps), (turned, done))

    def test_both_stop_just_when_the_machine_does(self):
        for seed, table in enumerate(many_tables()):
            machine = Machine(table)
            names = renamed(machine, spread_names(seed, len(table)), spread_names(seed + 1000, len(table[0])))
            for most in (0, 1, 5, 200):
                self.assertEqual(stops_at(mirrored(machine), most), stops_at(machine, most))
                self.assertEqual(stops_at(names, most), stops_at(machine, most))


class Numbers(unittest.TestCase):
    def test_by_hand(self):
        # One state, one sign: 0 is None, 1 goes left, 2 goes right.
        for number, entry in enumerate((None, (0, "l", 0), (0, "r", 0))):
            self.assertEqual(machine_of(1, 1, number).table, ((entry,),))
            self.assertEqual(number_of(Machine([[entry]])), number)
        # Two states, one sign: five values; the first state's entry counts one, the second one's five.
        self.assertEqual(machine_of(2, 1, 3 + 5 * 2).table, (((0, "r", 0),), ((0, "l", 1),)))
        self.assertEqual(number_of(Machine([[(0, "r", 0)], [(0, "l", 1)]])), 13)
        # One state, two signs: the signs of a state follow one another.
        self.assertEqual(machine_of(1, 2, 4 + 5 * 1).table, (((1, "r", 0), (0, "l", 0)),))
        self.assertEqual(number_of(Machine([[(1, "r", 0), (0, "l", 0)]])), 9)

    def test_all_machines_of_small_sizes(self):
        for states, signs in ((1, 1), (1, 2), (2, 1)):
            tables = []
            for number in range(greatest_number(states, signs) + 1):
                machine = machine_of(states, signs, number)
                self.assertEqual(number_of(machine), number)
                self.assertEqual(number_by_the_sum(machine.table), number)
                tables.append(machine.table)
            self.assertEqual(len(set(tables)), len(tables))

    def test_number_nought_and_the_greatest(self):
        for states in range(1, 13):
            for signs in range(1, 9):
                nought = machine_of(states, signs, 0)
                self.assertEqual(nought.table, ((None,) * signs,) * states)
                self.assertEqual(number_of(nought), 0)
                greatest = machine_of(states, signs, greatest_number(states, signs))
                self.assertEqual(greatest.table, (((signs - 1, "r", states - 1),) * signs,) * states)
                self.assertEqual(number_of(greatest), greatest_number(states, signs))

    def test_numbers_between(self):
        sizes = [(states, signs) for states in range(1, 5) for signs in range(1, 5)] + [(5, 2), (6, 3), (12, 8)]
        for states, signs in sizes:
            greatest = greatest_number(states, signs)
            for part in range(1, 40):
                number = greatest * part // 41
                machine = machine_of(states, signs, number)
                self.assertIsInstance(machine, Machine)
                self.assertEqual((states_of(machine), signs_of(machine)), (states, signs))
                self.assertEqual(number_by_the_sum(machine.table), number)
                self.assertEqual(number_of(machine), number)

    def test_machines_to_numbers_and_back(self):
        for table in many_tables():
            number = number_of(Machine(table))
            self.assertEqual(number, number_by_the_sum(table))
            self.assertEqual(machine_of(len(table), len(table[0]), number).table, as_tuples(table))

    def test_refused_sizes(self):
        for states, signs in ((0, 1), (1, 0), (0, 0), (-1, 1), (1, -1), (-1, -1), (-2, -3), (-10 ** 50, 2), (0, 8)):
            for number in (0, 1, -1, 10 ** 59):
                assert_refused(self, NoNumber, machine_of, states, signs, number)

    def test_refused_numbers(self):
        for states in range(1, 5):
            for signs in range(1, 5):
                greatest = greatest_number(states, signs)
                for number in (-1, -2, -10 ** 59, greatest + 1, greatest + 2, greatest * 2 + 1, greatest + 10 ** 59):
                    assert_refused(self, NoNumber, machine_of, states, signs, number)

    def test_the_machine_numbered_stays_as_it_was(self):
        machine = Machine(GOES_RIGHT)
        number_of(machine)
        self.assertEqual(machine.table, as_tuples(GOES_RIGHT))


if __name__ == "__main__":
    unittest.main()
