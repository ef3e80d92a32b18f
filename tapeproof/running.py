"""Running step by step.

A shot is a tuple (state, place, marks), marks being a tuple of pairs (place, sign) in the rising order of places.
"""

from tapeproof.errors import NoShot
from tapeproof.machines import BLANK, RIGHT, signs_of, states_of
from tapeproof.whole import is_below

FIRST_SHOT = (0, 0, ())


class Walk:
    def __init__(self, machine, shot):
        self.table = machine.table
        self.state = shot[0]
        self.place = shot[1]
        # The marks are parted at the machine's place, those nearest to it last in both lists:
        # so a step looks at their ends alone, and no shot needs sorting.
        self.left_marks = [(place, sign) for place, sign in shot[2] if place < self.place]
        self.right_marks = [(place, sign) for place, sign in reversed(shot[2]) if place >= self.place]

    def is_on_mark(self):
        return len(self.right_marks) > 0 and self.right_marks[-1][0] == self.place

    def entry(self):
        sign = self.right_marks[-1][1] if self.is_on_mark() else BLANK
        return self.table[self.state][sign]

    def write(self, sign):
        if self.is_on_mark():
            self.right_marks.pop()
        if sign != BLANK:
            self.right_marks.append((self.place, sign))

    def go_right(self):
        if self.is_on_mark():
            self.left_marks.append(self.right_marks.pop())
        self.place = self.place + 1

    def go_left(self):
        self.place = self.place - 1
        if len(self.left_marks) > 0 and self.left_marks[-1][0] == self.place:
            self.right_marks.append(self.left_marks.pop())

    def stepped(self):
        entry = self.entry()
        if entry is None:
            return False
        self.write(entry[0])
        if entry[1] == RIGHT:
            self.go_right()
        else:
            self.go_left()
        self.state = entry[2]
        return True

    def run(self, steps):
        done = 0
        while done < steps and self.stepped():
            done = done + 1
        return done

    def shot(self):
        return (self.state, self.place, tuple(self.left_marks) + tuple(reversed(self.right_marks)))


def check_shot(machine, shot):
    if not is_below(shot[0], states_of(machine)):
        raise NoShot("the state is not the machine's")
    marks = shot[2]
    signs = signs_of(machine)
    for place, sign in marks:
        if not is_below(sign, signs) or sign == BLANK:
            raise NoShot("a mark's sign is one of the machine's, and not the blank")
    for mark, following in zip(marks, marks[1:]):
        if mark[0] >= following[0]:
            raise NoShot("the places of the marks rise")


def after_from(machine, shot, steps):
    check_shot(machine, shot)
    walk = Walk(machine, shot)
    done = walk.run(steps)
    return (walk.shot(), done)


def after(machine, steps):
    return after_from(machine, FIRST_SHOT, steps)


def stops_at(machine, most):
    walk = Walk(machine, FIRST_SHOT)
    done = walk.run(most)
    return done if most >= 0 and walk.entry() is None else None


def trail(machine, steps):
    walk = Walk(machine, FIRST_SHOT)
    shots = [walk.shot()]
    while len(shots) <= steps and walk.stepped():
        shots.append(walk.shot())
    return shots
