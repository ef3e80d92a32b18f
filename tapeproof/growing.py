"""Papers of growing: moves of a shape that lead to the same shape with each extra one more."""

from tapeproof.errors import NoMove, NoShape
from tapeproof.machines import BLANK, LEFT, RIGHT, signs_of, states_of
from tapeproof.running import FIRST_SHOT, Walk
from tapeproof.shapes import MANY, ONE, check_shape, laid_out, raised, raised_token
from tapeproof.stretches import stretches_of
from tapeproof.whole import is_below, is_from_nought

GROW = "grow"
STEP = ("step",)
OVER = ("over",)
OPEN = ("open",)
MOST_STEPS_OVER = 1000


def signs_in(token):
    return (token[1],) if token[0] == ONE else token[1]


def check_shape_of(machine, shape):
    check_shape(shape)
    if shape[0] >= states_of(machine):
        raise NoShape("the state is not the machine's")
    signs = signs_of(machine)
    for tokens in shape[2:]:
        for token in tokens:
            if max(signs_in(token)) >= signs:
                raise NoShape("a sign is not the machine's")


def with_tuples(shape):
    return (shape[0], shape[1], tuple(shape[2]), tuple(shape[3]))


def ones_of(word):
    return tuple([(ONE, sign) for sign in word])


def token_ahead(shape):
    """The token that is next in the way that the machine faces, or None."""
    tokens = shape[3][:1] if shape[1] == RIGHT else shape[2][-1:]
    return tokens[0] if len(tokens) > 0 else None


def many_ahead(shape):
    token = token_ahead(shape)
    if token is None or token[0] != MANY:
        raise NoMove("the next token is no many")
    return token


def in_place_of_ahead(shape, tokens):
    if shape[1] == RIGHT:
        return (shape[0], RIGHT, shape[2], tokens + shape[3][1:])
    return (shape[0], LEFT, shape[2][:-1] + tokens, shape[3])


def gone_on(shape, state, way, token):
    """What was ahead is passed, and the token stands behind the machine, which goes on that way."""
    rest = in_place_of_ahead(shape, ())
    if way == RIGHT:
        return (state, way, rest[2] + (token,), rest[3])
    return (state, way, rest[2], (token,) + rest[3])


def after_step(machine, shape):
    token = token_ahead(shape)
    if token is not None and token[0] == MANY:
        raise NoMove("the cell to be read is no one")
    entry = machine.table[shape[0]][BLANK if token is None else token[1]]
    if entry is None:
        raise NoMove("the machine stops there")
    return gone_on(shape, entry[2], entry[1], (ONE, entry[0]))


def word_behind(machine, state, facing, word):
    """The word as it is left at its other end in the same state, or None where it is not left so."""
    cells = list(word)
    at = 0 if facing == RIGHT else len(cells) - 1
    current = state
    for step in range(MOST_STEPS_OVER):
        entry = machine.table[current][cells[at]]
        if entry is None:
            return None
        cells[at] = entry[0]
        at = at + 1 if entry[1] == RIGHT else at - 1
        current = entry[2]
        if not is_below(at, len(cells)):
            # The way of the step that leaves the word tells at which end it is left.
            return tuple(cells) if entry[1] == facing and current == state else None
    return None


def after_over(machine, shape):
    many = many_ahead(shape)
    word = word_behind(machine, shape[0], shape[1], many[1])
    if word is None:
        raise NoMove("the machine does not go over the word")
    return gone_on(shape, shape[0], shape[1], (MANY, word, many[2]))


def after_open(shape):
    many = many_ahead(shape)
    if many[2] < 1:
        raise NoMove("the many has no extra")
    rest = ((MANY, many[1], many[2] - 1),)
    ones = ones_of(many[1])
    return in_place_of_ahead(shape, ones + rest if shape[1] == RIGHT else rest + ones)


def place_of_many(tokens, side, at):
    """Counted from the left: the place of the many that has this number, counted from the list's outer end."""
    if not is_below(at, len(tokens)):
        raise NoMove("the list has no such token")
    place = at if side == LEFT else len(tokens) - 1 - at
    if tokens[place][0] != MANY:
        raise NoMove("the token is no many")
    return place


def with_ones_taken_in(tokens, place, rightwards):
    """The ones right of the many, or left of it, go into it."""
    many = tokens[place]
    first = place + 1 if rightwards else place - len(many[1])
    behind = first + len(many[1])
    if first < 0 or tokens[first:behind] != ones_of(many[1]):
        raise NoMove("the ones next to the many are not its word")
    return tokens[:min(first, place)] + (raised_token(many),) + tokens[max(behind, place + 1):]


def with_one_brought_over(tokens, place, rightwards):
    """The one left of the many goes to its right, or the one right of it to its left."""
    many = tokens[place]
    word = many[1]
    sign = word[-1] if rightwards else word[0]
    at = place - 1 if rightwards else place + 1
    if not is_below(at, len(tokens)) or tokens[at] != (ONE, sign):
        raise NoMove("the one next to the many is not its word's sign")
    if rightwards:
        turned = (MANY, (sign,) + word[:-1], many[2])
        return tokens[:at] + (turned, tokens[at]) + tokens[place + 1:]
    turned = (MANY, word[1:] + (sign,), many[2])
    return tokens[:place] + (tokens[at], turned) + tokens[at + 1:]


def with_end(tokens, word, side):
    blank = ((ONE, BLANK),)
    if word == "pad":
        return blank + tokens if side == LEFT else tokens + blank
    if word != "trim":
        raise NoMove("there is no such move of a list")
    if (tokens[:1] if side == LEFT else tokens[-1:]) != blank:
        raise NoMove("the outermost token is no one of the blank")
    return tokens[1:] if side == LEFT else tokens[:-1]


def with_many(tokens, word, side, at):
    """The machine stands right of the list l and left of the list r: so each word means one thing from the left and
    the other from the right."""
    place = place_of_many(tokens, side, at)
    if word in ("join", "draw"):
        return with_ones_taken_in(tokens, place, (word == "join") == (side == LEFT))
    if word in ("roll", "back"):
        return with_one_brought_over(tokens, place, (word == "roll") == (side == LEFT))
    raise NoMove("there is no such move of a many")


def after_put_together(shape, move):
    if not isinstance(move, tuple) or len(move) not in (2, 3) or move[1] not in (LEFT, RIGHT):
        raise NoMove("there is no such move")
    side = move[1]
    tokens = shape[2] if side == LEFT else shape[3]
    if len(move) == 2:
        put = with_end(tokens, move[0], side)
    else:
        put = with_many(tokens, move[0], side, move[2])
    if side == LEFT:
        return (shape[0], shape[1], put, shape[3])
    return (shape[0], shape[1], shape[2], put)


def after_move(machine, shape, move):
    """As moved, of a shape that is known to be one of the machine's and whose lists are tuples."""
    if move == STEP:
        return after_step(machine, shape)
    if move == OVER:
        return after_over(machine, shape)
    if move == OPEN:
        return after_open(shape)
    return after_put_together(shape, move)


def moved(machine, shape, move):
    check_shape_of(machine, shape)
    return after_move(machine, with_tuples(shape), move)


def after_moves(machine, shape, moves):
    check_shape_of(machine, shape)
    behind = with_tuples(shape)
    for move in moves:
        behind = after_move(machine, behind, move)
    return behind


def is_grow_paper(paper):
    if not isinstance(paper, tuple) or len(paper) != 4 or paper[0] != GROW:
        return False
    return is_from_nought(paper[1]) and isinstance(paper[3], (list, tuple))


def comes_to(machine, start, shape):
    walk = Walk(machine, FIRST_SHOT)
    if walk.run(start) < start:
        return False
    # Stretches are told as seen from the machine: so places may be shifted.
    return stretches_of(walk.shot()) == stretches_of(laid_out(shape, 0))


def takes_grow(machine, paper):
    if not is_grow_paper(paper):
        return False
    shape = paper[2]
    try:
        behind = after_moves(machine, shape, paper[3])
    except NoShape:
        return False
    except NoMove:
        return False
    return STEP in paper[3] and behind == raised(shape) and comes_to(machine, paper[1], shape)
