"""Papers turned as a machine is turned: what the machine takes, the turned machine takes turned, and nothing else.

Papers of coming round tell numbers of steps alone, which stay; those of growing and of walls tell signs, states, sides.
"""

from tapeproof.errors import NoNames
from tapeproof.growing import GROW
from tapeproof.machines import other_way
from tapeproof.shapes import MANY, ONE
from tapeproof.turns import check_names
from tapeproof.walls import WALL
from tapeproof.whole import is_below


def mirrored_token(token):
    return token if token[0] == ONE else (MANY, tuple(reversed(token[1])), token[2])


def mirrored_tokens(tokens):
    return tuple([mirrored_token(token) for token in reversed(tokens)])


def mirrored_shape(shape):
    return (shape[0], other_way(shape[1]), mirrored_tokens(shape[3]), mirrored_tokens(shape[2]))


def mirrored_move(move):
    # A many's number is counted from the outer end: it is the same in the mirrored list.
    return move if len(move) == 1 else (move[0], other_way(move[1])) + move[2:]


def mirrored_context(context):
    # Grams are read away from the machine: mirrored, they change sides but not the order of their signs.
    return (context[3], context[1], context[2], context[0])


def paper_mirrored(paper):
    if paper[0] == GROW:
        return (GROW, paper[1], mirrored_shape(paper[2]), tuple([mirrored_move(move) for move in paper[3]]))
    if paper[0] == WALL:
        contexts = [mirrored_context(context) for context in paper[4]]
        return (WALL, paper[1], list(paper[3]), list(paper[2]), contexts)
    return paper


def name_of(number, names):
    # No machine is at hand to tell how many there are, but each one that the paper speaks of is there.
    if not is_below(number, len(names)):
        raise NoNames("the paper speaks of a state or a sign that has no name")
    return names[number]


def renamed_word(word, signs):
    return tuple([name_of(sign, signs) for sign in word])


def renamed_token(token, signs):
    if token[0] == ONE:
        return (ONE, name_of(token[1], signs))
    return (MANY, renamed_word(token[1], signs), token[2])


def renamed_tokens(tokens, signs):
    return tuple([renamed_token(token, signs) for token in tokens])


def renamed_shape(shape, states, signs):
    left = renamed_tokens(shape[2], signs)
    right = renamed_tokens(shape[3], signs)
    return (name_of(shape[0], states), shape[1], left, right)


def renamed_context(context, states, signs):
    left = renamed_word(context[0], signs)
    right = renamed_word(context[3], signs)
    return (left, name_of(context[1], states), name_of(context[2], signs), right)


def renamed_wall(paper, states, signs):
    lefts = [renamed_word(gram, signs) for gram in paper[2]]
    rights = [renamed_word(gram, signs) for gram in paper[3]]
    return (WALL, paper[1], lefts, rights, [renamed_context(context, states, signs) for context in paper[4]])


def paper_renamed(paper, states, signs):
    for names in (states, signs):
        # A machine has at least one state and one sign: so no names at all are too few.
        check_names(names, max(len(names), 1))
    if paper[0] == GROW:
        return (GROW, paper[1], renamed_shape(paper[2], states, signs), tuple(paper[3]))
    if paper[0] == WALL:
        return renamed_wall(paper, states, signs)
    return paper
