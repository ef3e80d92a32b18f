"""What is shown of a machine, and pages of the book of all machines by their numbers."""

from tapeproof.makers import same_of, shifted_of
from tapeproof.rounds import SAME, SHIFTED
from tapeproof.running import stops_at
from tapeproof.turns import machine_of, many_machines
from tapeproof.walls import WALL, wall_of

STOPS = "stops"
NEVER = "never"
UNKNOWN = "open"
MOST_CONTEXTS = 200


def first_wall(machine, width):
    for wide in range(1, width + 1):
        wall = wall_of(machine, wide, MOST_CONTEXTS)
        if wall is not None:
            return wall
    return None


def first_paper(machine, most, width):
    same = same_of(machine, most)
    if same is not None:
        return same
    shifted = shifted_of(machine, most)
    if shifted is not None:
        return shifted
    return first_wall(machine, width)


def shown(machine, most, width=2):
    steps = stops_at(machine, most)
    if steps is not None:
        return (STOPS, steps)
    paper = first_paper(machine, most, width)
    return (UNKNOWN, None) if paper is None else (NEVER, paper)


def word_of(pair):
    """The word of the book for what is shown: in the place of never the kind of the paper."""
    return pair[1][0] if pair[0] == NEVER else pair[0]


def page(states, signs, first, many, most, width):
    # A first that is no machine's number is refused here, whatever many is.
    machine_of(states, signs, first)
    rows = []
    for number in range(first, min(first + many, many_machines(states, signs))):
        rows.append((number, word_of(shown(machine_of(states, signs, number), most, width))))
    return rows


def counts_of(rows):
    counts = {STOPS: 0, SAME: 0, SHIFTED: 0, WALL: 0, UNKNOWN: 0}
    for number, word in rows:
        counts[word] = counts[word] + 1
    return counts
