"""Stretches: a row seen from the machine.

It is a tuple (state, left, right). Both lists hold pairs (sign, count), told away from the machine;
right begins with the machine's own cell, left with the cell left of it.
"""

from tapeproof.errors import NoStretches
from tapeproof.machines import BLANK
from tapeproof.whole import is_from_nought


def add_stretch(side, sign, count):
    if count < 1:
        return
    if len(side) > 0 and side[-1][0] == sign:
        side[-1] = (sign, side[-1][1] + count)
    else:
        side.append((sign, count))


def side_of(cells):
    """Of pairs (cells between it and the side's first cell, sign), those nearest to the machine first."""
    side = []
    reached = 0
    for offset, sign in cells:
        add_stretch(side, BLANK, offset - reached)
        add_stretch(side, sign, 1)
        reached = offset + 1
    return side


def stretches_of(shot):
    here = shot[1]
    left = side_of([(here - 1 - place, sign) for place, sign in reversed(shot[2]) if place < here])
    right = side_of([(place - here, sign) for place, sign in shot[2] if place >= here])
    return (shot[0], left, right)


def is_stretch(thing):
    if not isinstance(thing, tuple) or len(thing) != 2:
        return False
    return is_from_nought(thing[0]) and is_from_nought(thing[1]) and thing[1] > 0


def check_side(side):
    if not isinstance(side, (list, tuple)) or not all([is_stretch(thing) for thing in side]):
        raise NoStretches("a side is a list of pairs of a sign and a count of one or more")
    for stretch, following in zip(side, side[1:]):
        if stretch[0] == following[0]:
            raise NoStretches("two stretches side by side have unlike signs")
    if len(side) > 0 and side[-1][0] == BLANK:
        raise NoStretches("the last stretch of a side is not blank")


def check_stretches(stretches):
    if not isinstance(stretches, tuple) or len(stretches) != 3:
        raise NoStretches("stretches are a state and two lists")
    if not is_from_nought(stretches[0]):
        raise NoStretches("the state is a whole number from nought on")
    check_side(stretches[1])
    check_side(stretches[2])


def marks_of(side, first, pace):
    """The marks from the place first on, each cell being pace from the one before, the nearest first."""
    marks = []
    place = first
    for sign, count in side:
        # A blank stretch is passed at once, for it may be longer than could be walked.
        if sign != BLANK:
            marks.extend([(place + pace * cell, sign) for cell in range(count)])
        place = place + pace * count
    return marks


def shot_of(stretches, place):
    check_stretches(stretches)
    left = marks_of(stretches[1], place - 1, -1)
    right = marks_of(stretches[2], place, 1)
    return (stretches[0], place, tuple(reversed(left)) + tuple(right))
