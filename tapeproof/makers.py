"""Makers of papers of coming round: of all that are taken, the one that is met first."""

from tapeproof.rounds import SAME, SHIFTED, is_shifted
from tapeproof.running import trail


def same_of(machine, most):
    met = {}
    for later, shot in enumerate(trail(machine, most)):
        if shot in met:
            return (SAME, met[shot], later)
        met[shot] = later
    return None


def first_shifted(shots, later):
    """The least first from which the machine comes to this later, or None."""
    ended = shots[later]
    least = ended[1]
    greatest = ended[1]
    found = None
    # From later back, so that each shot adds its place to those between.
    for first in range(later - 1, -1, -1):
        begun = shots[first]
        least = min(least, begun[1])
        greatest = max(greatest, begun[1])
        if is_shifted(begun, ended, begun[1] - least, greatest - begun[1]):
            found = first
    return found


def shifted_of(machine, most):
    shots = trail(machine, most)
    for later in range(1, len(shots)):
        first = first_shifted(shots, later)
        if first is not None:
            return (SHIFTED, first, later)
    return None
