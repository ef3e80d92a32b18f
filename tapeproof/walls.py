"""Papers of walls: all that a machine may see near itself, so that it never sees where it would stop.

A gram is a tuple of signs, read away from the machine, a context a tuple (left, state, sign, right) with two grams.
"""

from tapeproof.errors import NoWidth
from tapeproof.machines import BLANK, LEFT, RIGHT, other_way, signs_of, states_of
from tapeproof.whole import is_below, is_from_nought

WALL = "wall"


def is_gram(thing, width, signs):
    return isinstance(thing, tuple) and len(thing) == width and all([is_below(sign, signs) for sign in thing])


def is_context(thing, width, machine):
    if not isinstance(thing, tuple) or len(thing) != 4:
        return False
    if not is_below(thing[1], states_of(machine)) or not is_below(thing[2], signs_of(machine)):
        return False
    return is_gram(thing[0], width, signs_of(machine)) and is_gram(thing[3], width, signs_of(machine))


def are_grams(things, width, signs):
    return isinstance(things, (list, tuple)) and all([is_gram(thing, width, signs) for thing in things])


def is_wall_paper(machine, paper):
    if not isinstance(paper, tuple) or len(paper) != 5 or paper[0] != WALL:
        return False
    width = paper[1]
    if not is_from_nought(width) or width < 1:
        return False
    if not are_grams(paper[2], width, signs_of(machine)) or not are_grams(paper[3], width, signs_of(machine)):
        return False
    return isinstance(paper[4], (list, tuple)) and all([is_context(thing, width, machine) for thing in paper[4]])


def entry_at(machine, context):
    return machine.table[context[1]][context[2]]


def gram_behind(entry, context):
    """What lies behind the machine as it goes its step."""
    return context[0] if entry[1] == RIGHT else context[3]


def gram_ahead(entry, context):
    return context[3] if entry[1] == RIGHT else context[0]


def next_context(entry, context, gram):
    """The context behind the step, where gram comes to lie ahead."""
    sign = gram_ahead(entry, context)[0]
    behind = (entry[0],) + gram_behind(entry, context)[:-1]
    if entry[1] == RIGHT:
        return (behind, entry[2], sign, gram)
    return (gram, entry[2], sign, behind)


# Grams are kept by all their signs but the last one: by what is seen already of a gram that comes to lie ahead.
class Grams:
    def __init__(self):
        self.by_seen = {}

    def beginning(self, seen):
        return self.by_seen.get(seen, [])

    def has(self, gram):
        return gram in self.beginning(gram[:-1])

    def put_in(self, gram):
        if not self.has(gram):
            self.by_seen.setdefault(gram[:-1], []).append(gram)

    def in_order(self):
        grams = []
        for alike in self.by_seen.values():
            grams.extend(alike)
        return sorted(grams)


def grams_of(things):
    grams = Grams()
    for gram in things:
        grams.put_in(gram)
    return grams


def holds_at(machine, sides, contexts, context):
    """Whether all that is asked for of this context is there."""
    entry = entry_at(machine, context)
    if entry is None:
        return False
    way = entry[1]
    if not sides[other_way(way)].has(gram_behind(entry, context)):
        return False
    grams = sides[way].beginning(gram_ahead(entry, context)[1:])
    return all([next_context(entry, context, gram) in contexts for gram in grams])


def wall_taken(machine, paper):
    if not is_wall_paper(machine, paper) or len(paper[4]) == 0:
        return False
    # A context is there, so the width is that of a gram that was handed in, and no greater than can be made.
    blanks = (BLANK,) * paper[1]
    sides = {LEFT: grams_of(paper[2]), RIGHT: grams_of(paper[3])}
    contexts = dict([(context, True) for context in paper[4]])
    if not sides[LEFT].has(blanks) or not sides[RIGHT].has(blanks) or (blanks, 0, BLANK, blanks) not in contexts:
        return False
    return all([holds_at(machine, sides, contexts, context) for context in contexts])


# The least wall, as far as it is gathered.
class Gathering:
    def __init__(self, machine, width):
        blanks = (BLANK,) * width
        self.machine = machine
        self.sides = {LEFT: grams_of([blanks]), RIGHT: grams_of([blanks])}
        self.contexts = {}
        self.pending = []
        # For each way the contexts that go it, by what they have seen already of the gram that comes to lie ahead.
        self.asking = {LEFT: {}, RIGHT: {}}
        self.ask_for((blanks, 0, BLANK, blanks))

    def ask_for(self, context):
        if context not in self.contexts:
            self.contexts[context] = True
            self.pending.append(context)

    def put_gram(self, way, gram):
        if self.sides[way].has(gram):
            return
        self.sides[way].put_in(gram)
        for context in self.asking[way].get(gram[:-1], []):
            self.ask_for(next_context(entry_at(self.machine, context), context, gram))

    def went_on(self):
        """Asks for what a pending context asks for; False where it has no entry."""
        context = self.pending.pop()
        entry = entry_at(self.machine, context)
        if entry is None:
            return False
        way = entry[1]
        self.put_gram(other_way(way), gram_behind(entry, context))
        seen = gram_ahead(entry, context)[1:]
        self.asking[way].setdefault(seen, []).append(context)
        for gram in self.sides[way].beginning(seen):
            self.ask_for(next_context(entry, context, gram))
        return True

    def paper(self, width):
        return (WALL, width, self.sides[LEFT].in_order(), self.sides[RIGHT].in_order(), sorted(self.contexts))


def wall_of(machine, width, most):
    if width < 1:
        raise NoWidth("a wall is at least one wide")
    gathering = Gathering(machine, width)
    while len(gathering.pending) > 0:
        if len(gathering.contexts) > most or not gathering.went_on():
            return None
    return gathering.paper(width) if len(gathering.contexts) <= most else None
