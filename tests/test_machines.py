import unittest

from plain import BEAVER_THREE, as_tuples, assert_refused, copied, many_tables, spread_table
from tapeproof.errors import NoMachine
from tapeproof.machines import Machine, signs_of, states_of


def full_table(states, signs):
    """No None in it, so that each entry can be made wrong."""
    return [[(sign, "lr"[(state + sign) % 2], state) for sign in range(signs)] for state in range(states)]


def wrong_entries(states, signs):
    good = (signs - 1, "l", states - 1)
    return [
        list(good), [], "0l0", "", "l", 0, 1, -1, True, False, (), good[:1], good[:2], good + (0,), good + (None,),
        (good, good, good), (-1, "l", 0), (signs, "l", 0), (signs + 5, "r", 0), (10 ** 60, "r", 0),
        (True, "l", 0), (False, "r", 0), (0, "l", -1), (0, "r", states), (0, "r", states + 5), (0, "l", -10 ** 60),
        (0, "l", True), (0, "r", False), (0, "L", 0), (0, "R", 0), (0, "", 0), (0, "lr", 0), (0, "rl", 0),
        (0, " l", 0), (0, "n", 0), ("l", 0, 0), (0, 0, "r"),
    ]


class TakenTables(unittest.TestCase):
    def test_every_size_as_lists_and_as_tuples(self):
        for states in range(1, 13):
            for signs in range(1, 9):
                table = spread_table(states * 10 + signs, states, signs)
                for given in (table, as_tuples(table), [tuple(row) for row in table], tuple(copied(table))):
                    with self.subTest(states=states, signs=signs):
                        machine = Machine(given)
                        self.assertEqual(machine.table, as_tuples(table))
                        self.assertIs(type(machine.table), tuple)
                        self.assertTrue(all(type(row) is tuple for row in machine.table))
                        self.assertEqual(states_of(machine), states)
                        self.assertEqual(signs_of(machine), signs)

    def test_the_least_and_the_greatest_sign_and_state_both_ways(self):
        for write in (0, 7):
            for way in "lr":
                for state in (0, 11):
                    table = full_table(12, 8)
                    table[11][7] = (write, way, state)
                    self.assertEqual(Machine(table).table[11][7], (write, way, state))

    def test_a_table_of_stops_alone(self):
        self.assertEqual(Machine([[None, None], [None, None]]).table, ((None, None), (None, None)))

    def test_the_lists_handed_in_stay_as_they_were(self):
        for table in many_tables():
            given = copied(table)
            Machine(given)
            self.assertEqual(given, table)

    def test_the_lists_handed_in_are_not_kept(self):
        given = copied(BEAVER_THREE)
        machine = Machine(given)
        given[0][0] = None
        given[1].append((1, "r", 0))
        given[2].clear()
        given.pop()
        self.assertEqual(machine.table, as_tuples(BEAVER_THREE))
        self.assertEqual((states_of(machine), signs_of(machine)), (3, 2))

    def test_two_machines_of_one_list(self):
        given = copied(BEAVER_THREE)
        first = Machine(given)
        given[0][1] = (1, "l", 2)
        second = Machine(given)
        self.assertIsNone(first.table[0][1])
        self.assertEqual(second.table[0][1], (1, "l", 2))


class RefusedTables(unittest.TestCase):
    def test_no_state(self):
        assert_refused(self, NoMachine, Machine, [])
        assert_refused(self, NoMachine, Machine, ())

    def test_no_signs(self):
        for given in ([[]], [()], ((),), [[], []], [[] for _ in range(12)]):
            assert_refused(self, NoMachine, Machine, given)

    def test_a_list_too_long_or_too_short(self):
        for states, signs in ((2, 1), (2, 2), (3, 2), (12, 8)):
            for at in range(states):
                longer = full_table(states, signs)
                longer[at].append(None)
                assert_refused(self, NoMachine, Machine, longer)
                shorter = full_table(states, signs)
                shorter[at].pop()
                assert_refused(self, NoMachine, Machine, shorter)
                emptied = full_table(states, signs)
                emptied[at] = ()
                assert_refused(self, NoMachine, Machine, emptied)

    def test_a_wrong_entry_at_any_place(self):
        for states, signs in ((1, 1), (1, 2), (2, 1), (3, 2), (4, 3)):
            for wrong in wrong_entries(states, signs):
                for state in range(states):
                    for sign in range(signs):
                        table = full_table(states, signs)
                        table[state][sign] = wrong
                        with self.subTest(states=states, signs=signs, wrong=wrong, state=state, sign=sign):
                            assert_refused(self, NoMachine, Machine, table)
                            assert_refused(self, NoMachine, Machine, as_tuples(table))

    def test_a_wrong_entry_of_the_greatest_machine(self):
        for wrong in wrong_entries(12, 8):
            for state, sign in ((0, 0), (0, 7), (11, 0), (11, 7), (5, 3)):
                table = full_table(12, 8)
                table[state][sign] = wrong
                with self.subTest(wrong=wrong, state=state, sign=sign):
                    assert_refused(self, NoMachine, Machine, table)

    def test_states_and_signs_are_not_exchanged(self):
        # A number that is a state and no sign, or a sign and no state.
        assert_refused(self, NoMachine, Machine, [[(2, "l", 0)] * 2 for _ in range(3)])
        assert_refused(self, NoMachine, Machine, [[(0, "l", 2)] * 3 for _ in range(2)])


if __name__ == "__main__":
    unittest.main()
