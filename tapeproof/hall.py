"""From text to answer."""

from tapeproof.judging import NEVER, STOPS, shown
from tapeproof.notes import drawn, read_machine
from tapeproof.running import after
from tapeproof.walls import WALL


def run_text(machine_text, steps):
    told = after(read_machine(machine_text), steps)
    return drawn(told[0]) + " " + str(told[1])


def paper_text(paper):
    # Of a wall how many contexts it has, of a paper of coming round the later number of steps.
    last = len(paper[4]) if paper[0] == WALL else paper[2]
    return " ".join([paper[0], str(paper[1]), str(last)])


def shown_text(machine_text, most, width=2):
    told = shown(read_machine(machine_text), most, width)
    if told[0] == STOPS:
        return STOPS + " " + str(told[1])
    if told[0] == NEVER:
        return NEVER + " " + paper_text(told[1])
    return told[0]
