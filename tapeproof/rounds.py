"""Papers of coming round: the machine comes to the same shot again, or to one that is the same but shifted."""

from tapeproof.running import FIRST_SHOT, Walk
from tapeproof.whole import is_below, is_whole

SAME = "same"
SHIFTED = "shifted"


def is_paper(paper, kind):
    if not isinstance(paper, tuple) or len(paper) != 3 or paper[0] != kind:
        return False
    return is_whole(paper[2]) and is_below(paper[1], paper[2])


def round_of(machine, first, later):
    """The shots behind first and later steps, and how far to the left and to the right of the first one's place
    the machine comes between them; None where it stops ahead of that."""
    walk = Walk(machine, FIRST_SHOT)
    if walk.run(first) < first:
        return None
    begun = walk.shot()
    least = begun[1]
    greatest = begun[1]
    for step in range(first, later):
        if not walk.stepped():
            return None
        least = min(least, walk.place)
        greatest = max(greatest, walk.place)
    return (begun, walk.shot(), begun[1] - least, greatest - begun[1])


def marks_from(shot, low):
    """Seen from the machine: the marks from low left of it on, all the way to the right."""
    return [(place - shot[1], sign) for place, sign in shot[2] if place - shot[1] >= -low]


def marks_up_to(shot, high):
    """Seen from the machine: the marks from high right of it on, all the way to the left."""
    return [(place - shot[1], sign) for place, sign in shot[2] if place - shot[1] <= high]


def takes_same(machine, paper):
    if not is_paper(paper, SAME):
        return False
    walked = round_of(machine, paper[1], paper[2])
    return walked is not None and walked[0] == walked[1]


def is_shifted(begun, ended, low, high):
    """Whether the machine goes on from the one shot as from the other, coming so far to the left and to the right."""
    if begun[0] != ended[0] or begun[1] == ended[1]:
        return False
    if begun[1] < ended[1]:
        return marks_from(begun, low) == marks_from(ended, low)
    return marks_up_to(begun, high) == marks_up_to(ended, high)


def takes_shifted(machine, paper):
    if not is_paper(paper, SHIFTED):
        return False
    walked = round_of(machine, paper[1], paper[2])
    return walked is not None and is_shifted(walked[0], walked[1], walked[2], walked[3])
