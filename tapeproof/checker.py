"""The checker of papers of all kinds; it knows nothing of how they were made."""

from tapeproof.growing import takes_grow
from tapeproof.rounds import takes_same, takes_shifted
from tapeproof.walls import wall_taken


def takes(machine, paper):
    # Each of these is False for a paper of another kind, and for what is none.
    if takes_same(machine, paper) or takes_shifted(machine, paper):
        return True
    return takes_grow(machine, paper) or wall_taken(machine, paper)
