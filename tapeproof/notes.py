"""Texts of machines and of rows."""

from tapeproof.errors import NoText
from tapeproof.machines import BLANK, LEFT, RIGHT, Machine

STOP = "-"
FIGURES = "0123456789"
MOST_FIGURES = 60


def written_entry(entry):
    return STOP if entry is None else str(entry[0]) + entry[1] + str(entry[2])


def written_row(row):
    return " ".join([written_entry(entry) for entry in row])


def written_machine(machine):
    return "\n".join([written_row(row) for row in machine.table])


def is_number(text):
    # Looked at figure by figure: Python's own reading lets in other scripts, blanks and signs ahead.
    if not all([figure in FIGURES for figure in text]):
        return False
    return 1 <= len(text) <= MOST_FIGURES and (text == "0" or text[0] != "0")


def entry_in(text):
    """The entry that the text tells, or None where it tells a stop or none at all."""
    for way in (LEFT, RIGHT):
        parts = text.partition(way)
        if is_number(parts[0]) and is_number(parts[2]):
            return (int(parts[0]), way, int(parts[2]))
    return None


def is_as_told(text):
    return text == STOP or entry_in(text) is not None


def read_row(texts):
    return [entry_in(text) for text in texts]


def read_machine(text):
    rows = [row.split(" ") for row in text.split("\n")]
    for line, row in enumerate(rows):
        if len(row) != len(rows[0]) or not all([is_as_told(entry) for entry in row]):
            raise NoText(line)
    return Machine([read_row(row) for row in rows])


def drawn(shot):
    state = shot[0]
    own = shot[1]
    signs = dict(shot[2])
    places = [own] + [place for place, sign in shot[2]]
    cells = []
    for place in range(min(places), max(places) + 1):
        sign = signs.get(place, BLANK)
        cells.append(f"[{state}:{sign}]" if place == own else str(sign))
    return "".join(cells)
