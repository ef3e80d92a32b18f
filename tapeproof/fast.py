"""Running fast: a leap at a time, over rows told as stretches."""

from tapeproof.errors import NoStretches, TooLong
from tapeproof.machines import BLANK, RIGHT, signs_of, states_of
from tapeproof.stretches import add_stretch, check_stretches, shot_of


# A side is held here with the stretch nearest to the machine last, so that a leap looks at its end alone.
def put(side, sign, count):
    # Beyond the side all is blank already, and a row has no blank stretch at its end.
    if len(side) > 0 or sign != BLANK:
        add_stretch(side, sign, count)


def drop(side, count):
    if len(side) > 0:
        nearest = side.pop()
        put(side, nearest[0], nearest[1] - count)


def nearest_sign(side):
    return side[-1][0] if len(side) > 0 else BLANK


def alike(side, sign, most):
    """How many cells of this sign are nearest on the side, but no more than most."""
    if nearest_sign(side) != sign:
        return 0
    return min(side[-1][1], most) if len(side) > 0 else most


class FastWalk:
    def __init__(self, machine, stretches):
        self.table = machine.table
        self.state = stretches[0]
        self.left = list(reversed(stretches[1]))
        self.right = list(reversed(stretches[2]))
        # The machine's own cell is taken out of the right side, so that both ways are alike.
        self.own = nearest_sign(self.right)
        drop(self.right, 1)
        self.moved = 0

    def entry(self):
        return self.table[self.state][self.own]

    def leap(self, asked):
        entry = self.entry()
        rightwards = entry[1] == RIGHT
        ahead = self.right if rightwards else self.left
        behind = self.left if rightwards else self.right
        steps = 1 + alike(ahead, self.own, asked - 1) if entry[2] == self.state else 1
        put(behind, entry[0], steps)
        drop(ahead, steps - 1)
        self.own = nearest_sign(ahead)
        drop(ahead, 1)
        self.state = entry[2]
        self.moved = self.moved + steps if rightwards else self.moved - steps
        return steps

    def row(self):
        right = list(self.right)
        put(right, self.own, 1)
        return (self.state, list(reversed(self.left)), list(reversed(right)))


def check_of_machine(machine, stretches):
    check_stretches(stretches)
    if stretches[0] >= states_of(machine):
        raise NoStretches("the state is not the machine's")
    signs = signs_of(machine)
    for side in stretches[1:]:
        if any([sign >= signs for sign, count in side]):
            raise NoStretches("a sign is not the machine's")


def fast_from(machine, stretches, steps, most):
    check_of_machine(machine, stretches)
    walk = FastWalk(machine, stretches)
    done = 0
    leaps = 0
    while done < steps and walk.entry() is not None:
        if leaps >= most:
            raise TooLong("the run has more leaps than it may have")
        done = done + walk.leap(steps - done)
        leaps = leaps + 1
    return (walk.row(), walk.moved, done, leaps)


def fast_after(machine, steps, most=5000):
    told = fast_from(machine, (0, [], []), steps, most)
    return (shot_of(told[0], told[1]), told[2])
