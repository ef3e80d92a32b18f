"""What the tests share: tables, a plain walk that knows nothing of the program, and how a refusal is looked at."""

from itertools import groupby

from tapeproof import errors

# Busy beavers of two, three and four states; their last step, which goes to no state, is a stop here.
BEAVER_TWO = [
    [(1, "r", 1), (1, "l", 1)],
    [(1, "l", 0), None],
]
BEAVER_THREE = [
    [(1, "r", 1), None],
    [(0, "r", 2), (1, "r", 1)],
    [(1, "l", 2), (1, "l", 0)],
]
BEAVER_FOUR = [
    [(1, "r", 1), (1, "l", 1)],
    [(1, "l", 0), (0, "l", 2)],
    [None, (1, "l", 3)],
    [(1, "r", 3), (0, "r", 0)],
]
STOPS_AT_ONCE = [[None]]
STOPS_AT_ONCE_OF_TWO = [[None, (1, "r", 1)], [(0, "l", 0), None]]
GOES_RIGHT = [[(0, "r", 0)]]
WRITES_RIGHT = [[(1, "r", 0), None]]
WRITES_LEFT = [[(2, "l", 0), None, (1, "r", 0)]]
SWEEPS = [
    [(1, "r", 1), (1, "l", 0)],
    [(1, "l", 0), (1, "r", 1)],
]
TO_AND_FRO = [
    [(1, "r", 1), (0, "r", 1)],
    [(0, "l", 0), (0, "l", 0)],
]
COUNTS = [
    [(1, "l", 1), (0, "r", 0), (2, "r", 0)],
    [(2, "r", 0), (0, "l", 1), (1, "l", 1)],
]

TABLES = [
    BEAVER_TWO, BEAVER_THREE, BEAVER_FOUR, STOPS_AT_ONCE, STOPS_AT_ONCE_OF_TWO, GOES_RIGHT, WRITES_RIGHT, WRITES_LEFT,
    SWEEPS, TO_AND_FRO, COUNTS,
]

REFUSALS = [
    errors.NoMachine, errors.NoNames, errors.NoNumber, errors.NoShot, errors.NoStretches, errors.TooLong,
    errors.NoShape, errors.NoMove, errors.NoWidth, errors.NoText,
]


class Spread:
    """Numbers that look unlike one another and are the same in each run."""

    def __init__(self, seed):
        self.value = seed * 7919 + 12345

    def below(self, bound):
        self.value = (self.value * 6364136223846793005 + 1442695040888963407) % 2 ** 64
        return (self.value >> 33) % bound


def spread_table(seed, states, signs):
    spread = Spread(seed)
    return [[spread_entry(spread, states, signs) for _ in range(signs)] for _ in range(states)]


def spread_entry(spread, states, signs):
    if spread.below(2 * states * signs) == 0:
        return None
    return (spread.below(signs), "lr"[spread.below(2)], spread.below(states))


def spread_names(seed, many):
    """A renaming that leaves 0 at its place."""
    spread = Spread(seed)
    rest = list(range(1, many))
    names = [0]
    while rest:
        names.append(rest.pop(spread.below(len(rest))))
    return names


def many_tables():
    """The named tables, and one for each number of states and signs from one to four and for some larger ones."""
    sizes = [(states, signs) for states in range(1, 5) for signs in range(1, 5)] + [(5, 2), (12, 8), (12, 1), (1, 8)]
    spread = [spread_table(seed, states, signs) for states, signs in sizes for seed in range(6)]
    return TABLES + spread


def staying_table(seed, states, signs):
    """A table most of whose entries lead to their own state, some of them to the left and some to the right."""
    spread = Spread(seed)
    table = []
    for state in range(states):
        row = [spread_entry(spread, states, signs) for _ in range(signs)]
        table.append([entry if entry is None or spread.below(4) == 0 else entry[:2] + (state,) for entry in row])
    return table


def mirrored_table(table):
    return [[entry and (entry[0], "rl"["lr".index(entry[1])], entry[2]) for entry in row] for row in table]


def spread_shot(seed, states, signs, about, far=10 ** 50):
    """A shot with marks near the machine, and some far from it, on both sides."""
    spread = Spread(seed)
    places = [about + offset for offset in range(-6, 7)] + [about - far, about + far, about - 100, about + 100]
    marks = [(place, spread.below(signs)) for place in sorted(places)]
    return (spread.below(states), about, tuple(mark for mark in marks if mark[1] != 0))


def plain_side(signs):
    """The stretches of cells told one by one away from the machine."""
    side = [(sign, len(list(cells))) for sign, cells in groupby(signs)]
    return side[:-1] if side and side[-1][0] == 0 else side


def plain_stretches(shot):
    """The row seen from the machine, cell by cell: for shots whose marks all lie near the machine."""
    state, place, marks = shot
    cells = dict(marks)
    reach = max([abs(at - place) for at in cells], default=0) + 2
    left = [cells.get(place - 1 - offset, 0) for offset in range(reach)]
    right = [cells.get(place + offset, 0) for offset in range(reach)]
    return (state, plain_side(left), plain_side(right))


def plain_walk(table, shot, steps):
    """The shots from this one on, one behind each step, until steps are done or the machine stops."""
    state, place, marks = shot
    cells = dict(marks)
    shots = [shot]
    while len(shots) <= steps and table[state][cells.get(place, 0)] is not None:
        cells[place], way, state = table[state][cells.get(place, 0)]
        place += 1 if way == "r" else -1
        shots.append((state, place, tuple(sorted(cell for cell in cells.items() if cell[1] != 0))))
    return shots


def copied(things):
    """A copy with new lists all the way down."""
    if isinstance(things, list):
        return [copied(thing) for thing in things]
    if isinstance(things, tuple):
        return tuple(copied(thing) for thing in things)
    return things


def as_tuples(table):
    return tuple(tuple(row) for row in table)


def assert_refused(case, refusal, call, *given):
    """The refusal is of just this class, and what was handed in stays as it was."""
    before = repr(given)
    with case.assertRaises(errors.TapeError) as caught:
        call(*given)
    case.assertIs(type(caught.exception), refusal)
    case.assertEqual(repr(given), before)


def assert_alike(case, told, expected):
    """For long rows, of which unittest would take very long to show how they differ."""
    case.assertTrue(told == expected, f"told {told!r:.200}, not {expected!r:.200}")
