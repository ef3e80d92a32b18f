"""What the tests share: tables, plain walks and moves that know nothing of the program, and how a refusal is looked at.
"""

from itertools import groupby

from tapeproof import errors

# Busy beavers of two, three and four states; their last step, which goes to no state, is a stop here.
BEAVER_TWO = [
    [(1, "r", 1), (1, "l", 1)],
    [(1, "l", 0), None],
]
BEAVER_THREE = [
    [(1, "r", 1), None],
    [(0, "r", 2), (1, "r", 1)],
    [(1, "l", 2), (1, "l", 0)],
]
BEAVER_FOUR = [
    [(1, "r", 1), (1, "l", 1)],
    [(1, "l", 0), (0, "l", 2)],
    [None, (1, "l", 3)],
    [(1, "r", 3), (0, "r", 0)],
]
STOPS_AT_ONCE = [[None]]
STOPS_AT_ONCE_OF_TWO = [[None, (1, "r", 1)], [(0, "l", 0), None]]
GOES_RIGHT = [[(0, "r", 0)]]
WRITES_RIGHT = [[(1, "r", 0), None]]
WRITES_LEFT = [[(2, "l", 0), None, (1, "r", 0)]]
SWEEPS = [
    [(1, "r", 1), (1, "l", 0)],
    [(1, "l", 0), (1, "r", 1)],
]
TO_AND_FRO = [
    [(1, "r", 1), (0, "r", 1)],
    [(0, "l", 0), (0, "l", 0)],
]
COUNTS = [
    [(1, "l", 1), (0, "r", 0), (2, "r", 0)],
    [(2, "r", 0), (0, "l", 1), (1, "l", 1)],
]

FIRST = (0, 0, ())
FAR = 10 ** 50

TABLES = [
    BEAVER_TWO, BEAVER_THREE, BEAVER_FOUR, STOPS_AT_ONCE, STOPS_AT_ONCE_OF_TWO, GOES_RIGHT, WRITES_RIGHT, WRITES_LEFT,
    SWEEPS, TO_AND_FRO, COUNTS,
]

REFUSALS = [
    errors.NoMachine, errors.NoNames, errors.NoNumber, errors.NoShot, errors.NoStretches, errors.TooLong,
    errors.NoShape, errors.NoMove, errors.NoWidth, errors.NoText,
]


class Spread:
    """Numbers that look unlike one another and are the same in each run."""

    def __init__(self, seed):
        self.value = seed * 7919 + 12345

    def below(self, bound):
        self.value = (self.value * 6364136223846793005 + 1442695040888963407) % 2 ** 64
        return (self.value >> 33) % bound


def spread_table(seed, states, signs):
    spread = Spread(seed)
    return [[spread_entry(spread, states, signs) for _ in range(signs)] for _ in range(states)]


def spread_entry(spread, states, signs):
    if spread.below(2 * states * signs) == 0:
        return None
    return (spread.below(signs), "lr"[spread.below(2)], spread.below(states))


def spread_names(seed, many):
    """A renaming that leaves 0 at its place."""
    spread = Spread(seed)
    rest = list(range(1, many))
    names = [0]
    while rest:
        names.append(rest.pop(spread.below(len(rest))))
    return names


def many_tables():
    """The named tables, and one for each number of states and signs from one to four and for some larger ones."""
    sizes = [(states, signs) for states in range(1, 5) for signs in range(1, 5)] + [(5, 2), (12, 8), (12, 1), (1, 8)]
    spread = [spread_table(seed, states, signs) for states, signs in sizes for seed in range(6)]
    return TABLES + spread


def staying_table(seed, states, signs):
    """A table most of whose entries lead to their own state, some of them to the left and some to the right."""
    spread = Spread(seed)
    table = []
    for state in range(states):
        row = [spread_entry(spread, states, signs) for _ in range(signs)]
        table.append([entry if entry is None or spread.below(4) == 0 else entry[:2] + (state,) for entry in row])
    return table


def mirrored_table(table):
    return [[entry and (entry[0], "rl"["lr".index(entry[1])], entry[2]) for entry in row] for row in table]


def spread_shot(seed, states, signs, about, far=10 ** 50):
    """A shot with marks near the machine, and some far from it, on both sides."""
    spread = Spread(seed)
    places = [about + offset for offset in range(-6, 7)] + [about - far, about + far, about - 100, about + 100]
    marks = [(place, spread.below(signs)) for place in sorted(places)]
    return (spread.below(states), about, tuple(mark for mark in marks if mark[1] != 0))


def plain_side(signs):
    """The stretches of cells told one by one away from the machine."""
    side = [(sign, len(list(cells))) for sign, cells in groupby(signs)]
    return side[:-1] if side and side[-1][0] == 0 else side


def plain_stretches(shot):
    """The row seen from the machine, cell by cell: for shots whose marks all lie near the machine."""
    state, place, marks = shot
    cells = dict(marks)
    reach = max([abs(at - place) for at in cells], default=0) + 2
    left = [cells.get(place - 1 - offset, 0) for offset in range(reach)]
    right = [cells.get(place + offset, 0) for offset in range(reach)]
    return (state, plain_side(left), plain_side(right))


def plain_walk(table, shot, steps):
    """The shots from this one on, one behind each step, until steps are done or the machine stops."""
    state, place, marks = shot
    cells = dict(marks)
    shots = [shot]
    while len(shots) <= steps and table[state][cells.get(place, 0)] is not None:
        cells[place], way, state = table[state][cells.get(place, 0)]
        place += 1 if way == "r" else -1
        shots.append((state, place, tuple(sorted(cell for cell in cells.items() if cell[1] != 0))))
    return shots


def from_machine(shot):
    """The shot but for its places: the marks as they are seen from the machine."""
    return (shot[0], tuple((place - shot[1], sign) for place, sign in shot[2]))


def seen(shot, places):
    """The signs of these cells, seen from the machine."""
    cells = dict(shot[2])
    return [cells.get(shot[1] + place, 0) for place in places]


def differing(walked, first, later):
    """Where the two rows, seen from the machine, differ, and how far the machine comes to the left and right."""
    place = walked[first][1]
    places = [shot[1] for shot in walked[first:later + 1]]
    around = range(-2 * len(walked) - 2, 2 * len(walked) + 3)
    pairs = zip(around, seen(walked[first], around), seen(walked[later], around))
    return [at for at, sign, other in pairs if sign != other], place - min(places), max(places) - place


def plain_same(walked, first, later):
    return 0 <= first < later < len(walked) and walked[first] == walked[later]


def plain_shifted(walked, first, later):
    if not 0 <= first < later < len(walked) or walked[first][0] != walked[later][0]:
        return False
    unlike, low, high = differing(walked, first, later)
    if walked[later][1] > walked[first][1]:
        return not any(at >= -low for at in unlike)
    if walked[later][1] < walked[first][1]:
        return not any(at <= high for at in unlike)
    return False


def plain_of(table, most, kind, holds):
    """Of all pairs the one with the least later, and of these with the least first."""
    walked = plain_walk(table, FIRST, most)
    for later in range(1, most + 1):
        for first in range(later):
            if holds(walked, first, later):
                return (kind, first, later)
    return None


def asked_by(table, lefts, rights, context):
    """The grams that a context asks for in lefts and in rights, and the contexts; None where it has no entry."""
    left, state, sign, right = context
    if table[state][sign] is None:
        return None
    write, way, following = table[state][sign]
    if way == "r":
        contexts = [((write,) + left[:-1], following, right[0], gram) for gram in rights if gram[:-1] == right[1:]]
        return [left], [], contexts
    contexts = [(gram, following, left[0], (write,) + right[:-1]) for gram in lefts if gram[:-1] == left[1:]]
    return [], [right], contexts


def plain_wall(table, width, most=10 ** 9):
    """The least wall: all contexts are asked again and again until nothing more is asked for."""
    blanks = (0,) * width
    lefts, rights, contexts = {blanks}, {blanks}, {(blanks, 0, 0, blanks)}
    grown = True
    while grown:
        before = len(lefts) + len(rights) + len(contexts)
        for context in list(contexts):
            asked = asked_by(table, lefts, rights, context)
            if asked is None or len(contexts) > most:
                return None
            lefts.update(asked[0])
            rights.update(asked[1])
            contexts.update(asked[2])
        grown = len(lefts) + len(rights) + len(contexts) > before
    return ("wall", width, sorted(lefts), sorted(rights), sorted(contexts)) if len(contexts) <= most else None


def plain_stop(table, most):
    """How many steps are done ahead of the stop, None where they are more than most."""
    state, place, cells = 0, 0, {}
    for done in range(most + 1):
        if table[state][cells.get(place, 0)] is None:
            return done
        cells[place], way, state = table[state][cells.get(place, 0)]
        place += 1 if way == "r" else -1
    return None


def plain_shown(table, most, width):
    steps = plain_stop(table, most)
    if steps is not None:
        return ("stops", steps)
    papers = [plain_of(table, most, "same", plain_same), plain_of(table, most, "shifted", plain_shifted)]
    papers += [plain_wall(table, wide, 200) for wide in range(1, width + 1)]
    papers = [paper for paper in papers if paper is not None]
    return ("never", papers[0]) if papers else ("open", None)


def plain_word(told):
    """The book's word for what is shown."""
    return told[1][0] if told[0] == "never" else told[0]


def ones(*signs):
    return tuple(("one", sign) for sign in signs)


def many(extra, *word):
    return ("many", word, extra)


def with_tuples(shape):
    return shape[:2] + (tuple(shape[2]), tuple(shape[3]))


def with_lists(shape):
    return shape[:2] + (list(shape[2]), list(shape[3]))


def mirrored_tokens(tokens):
    return tuple(token if token[0] == "one" else ("many", token[1][::-1], token[2]) for token in reversed(tokens))


def mirrored_shape(shape):
    return (shape[0], {"l": "r", "r": "l"}[shape[1]], mirrored_tokens(shape[3]), mirrored_tokens(shape[2]))


def mirrored_move(move):
    return move[:1] + tuple({"l": "r", "r": "l"}[side] for side in move[1:2]) + move[2:]


def over_word(table, state, word, most=1000):
    """The word as the machine, begun at its first cell, leaves it to the right in the same state, and the steps."""
    cells = dict(enumerate(word))
    at, now, steps = 0, state, 0
    while 0 <= at < len(word) and steps < most and table[now][cells[at]] is not None:
        cells[at], way, now = table[now][cells[at]]
        at += 1 if way == "r" else -1
        steps += 1
    return (tuple(cells[cell] for cell in range(len(word))), steps) if (at, now) == (len(word), state) else None


def plain_moved(table, shape, move):
    """The shape behind a move, or None where it can not be done: told for one side and one facing alone."""
    if (move[1] if len(move) > 1 else {"r": "l", "l": "r"}[shape[1]]) == "r":
        told = plain_moved(mirrored_table(table), mirrored_shape(shape), mirrored_move(move))
        return told and mirrored_shape(told)
    state, facing, left, right = with_tuples(shape)
    if len(move) == 1:
        return plain_moved_on(table, state, left, right, move[0])
    told = plain_put_together(left, *move[:1], *move[2:])
    return None if told is None else (state, facing, told, right)


def plain_moved_on(table, state, left, right, word):
    """Facing r."""
    following = right[0] if right else ("one", 0)
    if word == "step":
        if following[0] == "many" or table[state][following[1]] is None:
            return None
        write, way, state = table[state][following[1]]
        if way == "r":
            return (state, "r", left + ones(write), right[1:])
        return (state, "l", left, ones(write) + right[1:])
    if following[0] == "one":
        return None
    _, signs, extra = following
    if word == "over":
        told = over_word(table, state, signs)
        return told and (state, "r", left + (("many", told[0], extra),), right[1:])
    return None if extra == 0 else (state, "r", left, ones(*signs) + (("many", signs, extra - 1),) + right[1:])


def plain_put_together(tokens, word, at=None):
    """Of the list l."""
    if word == "pad":
        return ones(0) + tokens
    if word == "trim":
        return tokens[1:] if tokens[:1] == ones(0) else None
    if not 0 <= at < len(tokens) or tokens[at][0] == "one":
        return None
    outer, (_, signs, extra), inner = tokens[:at], tokens[at], tokens[at + 1:]
    more = (("many", signs, extra + 1),)
    if word == "join":
        return outer + more + inner[len(signs):] if inner[:len(signs)] == ones(*signs) else None
    if word == "draw":
        near = outer[max(0, len(outer) - len(signs)):]
        return outer[:len(outer) - len(signs)] + more + inner if near == ones(*signs) else None
    if word == "roll":
        turned = ("many", signs[-1:] + signs[:-1], extra)
        return outer[:-1] + (turned, outer[-1]) + inner if outer[-1:] == ones(signs[-1]) else None
    turned = ("many", signs[1:] + signs[:1], extra)
    return outer + (inner[0], turned) + inner[1:] if inner[:1] == ones(signs[0]) else None


WORDS = ("join", "draw", "roll", "back")


def all_moves(shape):
    moves = [("step",), ("over",), ("open",)]
    for side, tokens in zip("lr", shape[2:]):
        moves += [("trim", side), ("pad", side)]
        moves += [(word, side, at) for word in WORDS for at in range(-2, len(tokens) + 2)]
    return moves


def steps_of(table, shape, move, count):
    """How many plain steps the move is at this count."""
    if move == ("step",):
        return 1
    if move != ("over",):
        return 0
    if shape[1] == "l":
        return steps_of(mirrored_table(table), mirrored_shape(shape), move, count)
    _, word, extra = shape[3][0]
    return (count + extra) * over_word(table, shape[0], word)[1]


NO_MOVES = [
    None, True, False, 0, 1, -1, FAR, "", "step", "over", "open", "pad", "l", (), [], ["step"], ["over"], ["open"],
    ["pad", "l"], ["trim", "r"], ["join", "l", 0], ["draw", "r", 0], (("step",),), [("step",)], ("Step",), ("STEP",),
    ("steps",), ("step ",), ("",), (None,), (True,), (0,), (["step"],), ("step", "l"), ("step", "r"), ("step", None),
    ("step", 0), ("step", "r", 0), ("over", "r"), ("over", "l"), ("over", "r", 0), ("open", "r"), ("open", "l", 0),
    ("pad",), ("trim",), ("join",), ("draw",), ("roll",), ("back",), ("pad", "l", 0), ("pad", "r", None),
    ("trim", "l", 0), ("join", "l"), ("draw", "r"), ("roll", "l"), ("back", "r"), ("join", 0), ("join", 0, "l"),
    ("join", "l", 0, 0), ("draw", "r", 0, None), ("roll", "l", 0, 0), ("back", "l", 0, 0), ("pad", "l", "r"),
    ("pad", "L"), ("pad", "R"), ("pad", ""), ("pad", "lr"), ("pad", "left"), ("pad", None), ("pad", True), ("pad", 0),
    ("pad", ("l",)), ("pad", ["l"]), ("trim", "L"), ("trim", ""), ("trim", None), ("trim", 1), ("trim", ["r"]),
    ("join", "", 0), ("join", "L", 0), ("join", None, 0), ("join", True, 0), ("join", ["l"], 0), ("join", 1, 0),
    ("fold", "l", 0), ("fold", "l"), ("Pad", "l"), ("Join", "l", 0), ("", "l", 0), (None, "l", 0), (None, "l"),
    (("join",), "l", 0), (["join"], "l", 0), (["pad"], "l"), ("lr", "l"), ("step", "l", 0), ("join", "l", "0"),
    ("join", "l", None), ("join", "l", (0,)), ("join", "l", [0]), ("one", 1), ("many", (1,), 0),
]


# A paper of growing for SWEEPS, which writes a 1 more at each end in each round.
SWEEPS_SHAPE = (0, "l", (), (many(0, 1, 1),))
SWEEPS_MOVES = (
    ("step",), ("over",), ("step",), ("over",), ("step",), ("roll", "r", 1), ("join", "r", 0),
)
SWEEPS_PAPER = ("grow", 0, SWEEPS_SHAPE, SWEEPS_MOVES)

STEP = ("step",)
OVER = ("over",)


def sweeper(word):
    """Goes to the right over copies of the word, writes it once more, goes back to the left, and so on."""
    signs = range(1, max(word) + 1)
    back = len(word)
    table = [[None] + [(sign, "r", 0) for sign in signs]]
    table += [[None] + [None for _ in signs] for _ in word[1:]]
    table += [[(0, "r", 0)] + [(sign, "l", back) for sign in signs]]
    for state, sign in enumerate(word):
        table[state][0] = (sign, "r", state + 1) if state < back - 1 else (sign, "l", back)
    return table


def swapping_sweeper(word):
    """Likewise, but what it goes over is left as other signs, and on the way back as it was."""
    table = sweeper(word)
    other = max(word)
    for state, row in enumerate(table):
        row += [None for _ in range(other)]
        if state < len(word) - 1:
            row[0] = (row[0][0] + other,) + row[0][1:]
    for sign in range(1, other + 1):
        table[0][sign] = (sign + other, "r", 0)
        table[-1][sign + other] = (sign, "l", len(word))
    return table


def sweeper_moves(word):
    size = len(word)
    return (OVER,) + (STEP,) * (2 * size - 1) + (OVER, STEP, ("draw", "r", size), ("trim", "l"))


# Over 1 2 it goes to and fro on its way to the right.
HESITATES = [
    [(1, "r", 1), (1, "r", 3), None],
    [(2, "l", 2), None, None],
    [(0, "r", 0), (1, "l", 2), (2, "l", 2)],
    [None, None, (2, "l", 4)],
    [None, (1, "r", 5), None],
    [None, None, (2, "r", 0)],
]
# It writes a 1 at the right end and a 2 at the left end in each round.
BOTH_ENDS = [
    [(1, "l", 1), (1, "r", 0), (2, "r", 0)],
    [(2, "r", 0), (1, "l", 1), (2, "l", 1)],
]
BOTH_ENDS_SHAPE = (0, "r", ones(2), (many(0, 2), many(1, 1)))
BOTH_ENDS_MOVES = (OVER, OVER, STEP, OVER, OVER, STEP, STEP, ("draw", "r", 1), ("join", "r", 1))

# Each with a table, a start, a shape and the moves of a round.
ROUNDS = [
    (sweeper(word), 0, (0, "r", (), (many(0, *word),)), sweeper_moves(word))
    for word in ((1,), (1, 2), (2, 1), (1, 1), (1, 2, 1), (1, 1, 2, 3), (3, 2, 1, 2, 3))
] + [
    (swapping_sweeper(word), 0, (0, "r", (), (many(0, *word),)), sweeper_moves(word))
    for word in ((1,), (1, 2), (2, 1, 2))
] + [
    (HESITATES, 0, (0, "r", (), (many(0, 1, 2),)), sweeper_moves((1, 2))),
    (BOTH_ENDS, 2, BOTH_ENDS_SHAPE, BOTH_ENDS_MOVES),
    (SWEEPS,) + SWEEPS_PAPER[1:],
    # Its trail is a many behind it.
    (WRITES_RIGHT, 0, (0, "r", (many(0, 1),), ()), (STEP, ("join", "l", 0))),
    (WRITES_RIGHT, 3, (0, "r", (many(1, 1),) + ones(1, 1), ()), (STEP, ("back", "l", 0), ("draw", "l", 1))),
]


def mirrored_round(table, start, shape, moves):
    return (mirrored_table(table), start, mirrored_shape(shape), tuple(mirrored_move(move) for move in moves))


def along(table, start, shape, moves):
    """The round begun at each of its moves: starts, shapes and moves."""
    here = with_tuples(shape)
    for at in range(len(moves)):
        yield start, here, moves[at:] + moves[:at]
        start += steps_of(table, here, moves[at], 0)
        here = plain_moved(table, here, moves[at])


def with_extras(table, start, shape, moves, most=3):
    """The round begun once and more than once later, when there is more of each many."""
    for _ in range(most + 1):
        yield start, shape, moves
        for move in moves:
            start += steps_of(table, shape, move, 0)
            shape = plain_moved(table, shape, move)


def all_rounds():
    for table, start, shape, moves in [turned for told in ROUNDS for turned in (told, mirrored_round(*told))]:
        for later_start, later_shape, same_moves in with_extras(table, start, shape, moves):
            for told in along(table, later_start, later_shape, same_moves):
                yield (table,) + told


def idle_pairs(table, shape):
    """Pairs of moves that lead to the same shape again without a step of the machine."""
    pairs = []
    for move in all_moves(shape):
        if move in (STEP, OVER):
            continue
        behind = plain_moved(table, shape, move)
        for other in all_moves(behind) if behind is not None else ():
            if other not in (STEP, OVER) and plain_moved(table, behind, other) == shape:
                pairs.append((move, other))
    return pairs


# Each with a table that takes the paper, of each kind one and more.
TAKEN = [
    (TO_AND_FRO, ("same", 0, 4)),
    (TO_AND_FRO, ("same", 3, 15)),
    ([[(0, "r", 1)], [(0, "l", 0)]], ("same", 0, 2)),
    (GOES_RIGHT, ("shifted", 0, 1)),
    (GOES_RIGHT, ("shifted", 1, 3)),
    (WRITES_RIGHT, ("shifted", 0, 2)),
    (mirrored_table(WRITES_RIGHT), ("shifted", 1, 2)),
    (SWEEPS, SWEEPS_PAPER),
    (SWEEPS, SWEEPS_PAPER[:2] + ((0, "l", [], list(SWEEPS_PAPER[2][3])), list(SWEEPS_PAPER[3]))),
    (GOES_RIGHT, ("grow", 1, (0, "r", (), ()), (("step",), ("trim", "l")))),
    (GOES_RIGHT, ("grow", 0, (0, "r", (("many", (0,), 1),), []), [("step",), ("join", "l", 0)])),
    (GOES_RIGHT, ("wall", 1, [(0,)], [(0,)], [((0,), 0, 0, (0,))])),
    (WRITES_RIGHT, ("wall", 1, [(0,), (1,)], ((0,),), [((0,), 0, 0, (0,)), ((1,), 0, 0, (0,))])),
    (WRITES_RIGHT, (
        "wall", 2, [(0, 0), (1, 0), (1, 1)], [(0, 0)],
        (((0, 0), 0, 0, (0, 0)), ((1, 0), 0, 0, (0, 0)), ((1, 1), 0, 0, (0, 0))),
    )),
]


WRONG_NUMBERS = (-1, -2, -FAR, True, False, None, "1", "", (), (1,), [], [1])


def wrong_tokens():
    tokens = [
        None, True, False, 0, 1, "one", "many", "", (), [], ("one",), ("many",), ("many", (1,)), ("many", 0),
        ("one", 1, 0), ("one", 1, 1), ("one", (1,), 0), ("many", (1,), 0, 0), ("many", (), 0), ("many", (), 5),
        ("many", 1, 0), ("many", "1", 0), ("many", None, 0), ("many", [1], 0), ("many", [], 0), ("two", 1),
        ("ones", 1), ("One", 1), ("", 1), (None, 1), (1, 1), ("few", (1,), 0), (None, (1,), 0), ("Many", (1,), 0),
        ["one", 1], ["many", (1,), 0], (1, "one"), (("one", 1),), ("one", 1, None), ("many", 0, (1,)),
    ]
    tokens += [("one", wrong) for wrong in WRONG_NUMBERS]
    tokens += [("many", (1,), wrong) for wrong in WRONG_NUMBERS]
    tokens += [("many", (wrong,), 0) for wrong in WRONG_NUMBERS]
    tokens += [("many", (1, wrong, 2), 1) for wrong in WRONG_NUMBERS]
    tokens += [("many", (1, 2, wrong), 0) for wrong in WRONG_NUMBERS]
    return tokens


def wrong_shapes():
    """What is no shape, whatever the machine is."""
    wrongs = [
        (), (0,), (0, "r"), (0, "r", []), (0, "r", [], [], []), (0, "r", [], [], None), (0, [], []), ("r", [], []),
        None, True, False, 0, 1, "", "0r", [], [0, "r", [], []],
    ]
    for state in WRONG_NUMBERS:
        wrongs += [(state, "r", [], []), (state, "l", [("one", 1)], [("many", (1,), 0)])]
    for facing in ("", "L", "R", "lr", "rl", " r", "left", "right", None, True, False, 0, 1, ("r",), ["l"]):
        wrongs += [(0, facing, [], []), (0, facing, [("one", 1)], [("one", 1)])]
    for wrong in (None, True, False, 0, 1, "", "one", "l"):
        wrongs += [(0, "r", wrong, []), (0, "l", [], wrong), (0, "l", [("one", 1)], wrong)]
    for wrong in wrong_tokens():
        for tokens in ([wrong], [wrong, ("one", 1)], [("one", 1), wrong], [("many", (1,), 0), wrong, ("one", 2)]):
            wrongs += [(0, "r", tokens, []), (0, "l", [], tokens)]
            wrongs += [(0, "r", tuple(tokens), (("one", 1),)), (0, "l", (("one", 1),), tuple(tokens))]
    return wrongs


def copied(things):
    """A copy with new lists all the way down."""
    if isinstance(things, list):
        return [copied(thing) for thing in things]
    if isinstance(things, tuple):
        return tuple(copied(thing) for thing in things)
    return things


def as_tuples(table):
    return tuple(tuple(row) for row in table)


def assert_refused(case, refusal, call, *given):
    """The refusal is of just this class, and what was handed in stays as it was."""
    before = repr(given)
    with case.assertRaises(errors.TapeError) as caught:
        call(*given)
    case.assertIs(type(caught.exception), refusal)
    case.assertEqual(repr(given), before)


def assert_alike(case, told, expected):
    """For long rows, of which unittest would take very long to show how they differ."""
    case.assertTrue(told == expected, f"told {told!r:.200}, not {expected!r:.200}")
