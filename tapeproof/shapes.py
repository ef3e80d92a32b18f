"""Shapes: rows with parts that are there so many times, laid out at a count.

A token is ("one", sign) or ("many", word, extra), a shape a tuple (state, facing, left, right).
"""

from tapeproof.errors import NoShape
from tapeproof.machines import BLANK, LEFT, RIGHT
from tapeproof.whole import is_from_nought

ONE = "one"
MANY = "many"


def is_word(thing):
    return isinstance(thing, tuple) and len(thing) > 0 and all([is_from_nought(sign) for sign in thing])


def is_token(thing):
    if not isinstance(thing, tuple):
        return False
    if len(thing) == 2:
        return thing[0] == ONE and is_from_nought(thing[1])
    return len(thing) == 3 and thing[0] == MANY and is_word(thing[1]) and is_from_nought(thing[2])


def check_tokens(tokens):
    if not isinstance(tokens, (list, tuple)) or not all([is_token(thing) for thing in tokens]):
        raise NoShape("the machine stands between two lists of tokens")


def check_shape(shape):
    if not isinstance(shape, tuple) or len(shape) != 4:
        raise NoShape("a shape is a state, a facing and two lists")
    if not is_from_nought(shape[0]):
        raise NoShape("the state is a whole number from nought on")
    if shape[1] not in (LEFT, RIGHT):
        raise NoShape("the machine faces l or r")
    check_tokens(shape[2])
    check_tokens(shape[3])


def cells_of(tokens, count):
    cells = []
    for token in tokens:
        if token[0] == ONE:
            cells.append(token[1])
        else:
            cells.extend(token[1] * (count + token[2]))
    return cells


def laid_out(shape, count):
    check_shape(shape)
    if not is_from_nought(count):
        raise NoShape("the count is a whole number from nought on")
    left = cells_of(shape[2], count)
    cells = left + cells_of(shape[3], count)
    # The first cell of right is at place 0.
    marks = [(at - len(left), sign) for at, sign in enumerate(cells) if sign != BLANK]
    return (shape[0], 0 if shape[1] == RIGHT else -1, tuple(marks))


def raised_token(token):
    return token if token[0] == ONE else (MANY, token[1], token[2] + 1)


def raised_tokens(tokens):
    return tuple([raised_token(token) for token in tokens])


def raised(shape):
    check_shape(shape)
    return (shape[0], shape[1], raised_tokens(shape[2]), raised_tokens(shape[3]))
