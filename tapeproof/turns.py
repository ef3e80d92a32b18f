"""Turns of a machine, and the numbers of all machines of so many states and signs."""

from tapeproof.errors import NoNames, NoNumber
from tapeproof.machines import LEFT, RIGHT, Machine, other_way, signs_of, states_of
from tapeproof.whole import is_below


def mirrored_entry(entry):
    if entry is None:
        return None
    return (entry[0], other_way(entry[1]), entry[2])


def mirrored_row(row):
    return [mirrored_entry(entry) for entry in row]


def mirrored(machine):
    return Machine([mirrored_row(row) for row in machine.table])


def check_names(names, many):
    # Looked at one by one first: sorted, True would pass for 1 and False for 0.
    if not all([is_below(name, many) for name in names]):
        raise NoNames("a name is a number from nought to one below how many there are")
    if sorted(names) != list(range(many)):
        raise NoNames("each number is there once")
    if names[0] != 0:
        raise NoNames("nought stays at its place")


def renamed_entry(entry, states, signs):
    if entry is None:
        return None
    return (signs[entry[0]], entry[1], states[entry[2]])


def renamed_row(row, states, signs):
    entries = [None for entry in row]
    for sign, entry in zip(signs, row):
        entries[sign] = renamed_entry(entry, states, signs)
    return entries


def renamed(machine, states, signs):
    check_names(states, states_of(machine))
    check_names(signs, signs_of(machine))
    rows = [() for row in machine.table]
    for state, row in zip(states, machine.table):
        rows[state] = renamed_row(row, states, signs)
    return Machine(rows)


def values_of_entry(states, signs):
    return 2 * states * signs + 1


def many_machines(states, signs):
    values = values_of_entry(states, signs)
    many = 1
    for entry in range(states * signs):
        many = many * values
    return many


def entry_of(value, states):
    if value == 0:
        return None
    write_and_way = (value - 1) // states
    way = RIGHT if write_and_way % 2 == 1 else LEFT
    return (write_and_way // 2, way, (value - 1) % states)


def value_of(entry, states):
    if entry is None:
        return 0
    way = 1 if entry[1] == RIGHT else 0
    return 1 + (entry[0] * 2 + way) * states + entry[2]


def machine_of(states, signs, number):
    if states < 1 or signs < 1:
        raise NoNumber("a machine has at least one state and one sign")
    if number < 0:
        raise NoNumber("no number of a machine is below nought")
    values = values_of_entry(states, signs)
    rest = number
    entries = []
    for place in range(states * signs):
        entries.append(entry_of(rest % values, states))
        rest = rest // values
    if rest != 0:
        raise NoNumber("the number is beyond that of the last machine")
    return Machine([entries[state * signs:(state + 1) * signs] for state in range(states)])


def number_of(machine):
    states = states_of(machine)
    values = values_of_entry(states, signs_of(machine))
    number = 0
    for row in reversed(machine.table):
        for entry in reversed(row):
            number = number * values + value_of(entry, states)
    return number
