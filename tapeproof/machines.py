"""Machines: a table with one row for each state, and in it one entry for each sign.

An entry is None, where the machine stops, or a tuple (write, way, following state).
"""

from tapeproof.errors import NoMachine
from tapeproof.whole import is_below

BLANK = 0
LEFT = "l"
RIGHT = "r"


def other_way(way):
    return LEFT if way == RIGHT else RIGHT


def is_entry(thing, states, signs):
    if thing is None:
        return True
    if not isinstance(thing, tuple) or len(thing) != 3:
        return False
    return is_below(thing[0], signs) and thing[1] in (LEFT, RIGHT) and is_below(thing[2], states)


def check_rows(rows):
    if len(rows) == 0:
        raise NoMachine("a machine has at least one state")
    states = len(rows)
    signs = len(rows[0])
    if signs == 0:
        raise NoMachine("a machine has at least one sign")
    for row in rows:
        if len(row) != signs:
            raise NoMachine("each state has one entry for each sign")
        if not all([is_entry(thing, states, signs) for thing in row]):
            raise NoMachine("an entry is None or a tuple of a sign, a way and a state of the machine")


class Machine:
    def __init__(self, table):
        # Copied ahead of the checks: what is checked is what is kept, and no list of the asker's is.
        rows = tuple([tuple(row) for row in table])
        check_rows(rows)
        self.table = rows


def states_of(machine):
    return len(machine.table)


def signs_of(machine):
    return len(machine.table[0])
