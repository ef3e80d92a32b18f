import unittest

from plain import (
    BEAVER_TWO, BOTH_ENDS, BOTH_ENDS_MOVES, BOTH_ENDS_SHAPE, FAR, FIRST, GOES_RIGHT, NO_MOVES, ROUNDS, STEP,
    STOPS_AT_ONCE, SWEEPS, SWEEPS_MOVES, SWEEPS_SHAPE, TO_AND_FRO, WRITES_RIGHT, Spread, all_moves, all_rounds, along,
    as_tuples, copied, from_machine, idle_pairs, many, mirrored_round, mirrored_table, ones, plain_moved, plain_walk,
    steps_of, sweeper, sweeper_moves, with_lists, with_tuples, wrong_shapes,
)
from tapeproof.growing import takes_grow
from tapeproof.machines import Machine
from tapeproof.shapes import laid_out, raised


def plain_takes(table, paper):
    """For papers whose things are all of the kinds told."""
    _, start, shape, moves = paper
    walked = plain_walk(table, FIRST, start)
    if len(walked) <= start or from_machine(walked[start]) != from_machine(laid_out(shape, 0)):
        return False
    here = with_tuples(shape)
    for move in moves:
        here = plain_moved(table, here, move)
        if here is None:
            return False
    return STEP in moves and here == raised(shape)


class Taken(unittest.TestCase):
    def test_rounds_anywhere_begun(self):
        many_taken = 0
        for table, start, shape, moves in all_rounds():
            with self.subTest(table=table, start=start, shape=shape, moves=moves):
                self.assertIs(takes_grow(Machine(table), ("grow", start, shape, moves)), True)
                many_taken += 1
        self.assertGreater(many_taken, 400)

    def test_lists_and_tuples(self):
        for table, start, shape, moves in list(all_rounds())[::3]:
            machine = Machine(table)
            for given in (with_tuples(shape), with_lists(shape), shape[:2] + (list(shape[2]), tuple(shape[3]))):
                for handed in (list(moves), tuple(moves)):
                    self.assertIs(takes_grow(machine, ("grow", start, given, handed)), True)

    def test_plain_steps_come_from_each_count_to_the_next(self):
        for table, start, shape, moves in list(all_rounds())[::2]:
            self.assertIs(takes_grow(Machine(table), ("grow", start, shape, moves)), True)
            for count in range(4):
                walked = [from_machine(shot) for shot in plain_walk(table, laid_out(shape, count), 150)[1:]]
                self.assertIn(from_machine(laid_out(shape, count + 1)), walked)

    def test_idle_moves_between(self):
        tried = {}
        for table, start, shape, moves in list(all_rounds())[::5]:
            machine = Machine(table)
            here = with_tuples(shape)
            for at, move in enumerate(moves):
                for idle in idle_pairs(table, here):
                    paper = ("grow", start, shape, moves[:at] + idle + moves[at:])
                    self.assertIs(takes_grow(machine, paper), True)
                    tried[idle[0][0]] = tried.get(idle[0][0], 0) + 1
                here = plain_moved(table, here, move)
        for word in ("open", "roll", "back", "pad", "trim"):
            self.assertGreater(tried[word], 20, word)

    def test_many_idle_moves(self):
        idle = (("pad", "l"), ("pad", "r"), ("trim", "l"), ("trim", "r")) * 48
        for table, start, shape, moves in ROUNDS:
            if len(moves) + len(idle) <= 205:
                self.assertIs(takes_grow(Machine(table), ("grow", start, shape, idle + moves)), True)
                self.assertIs(takes_grow(Machine(table), ("grow", start, shape, list(moves + idle))), True)

    def test_several_rounds_of_steps_that_come_round(self):
        # It walks on over blanks: a shape without a many, and one without any token.
        machine = Machine(GOES_RIGHT)
        for start in (0, 1, 7, 5000):
            for shape in ((0, "r", (), ()), (0, "r", [], [])):
                for steps in range(4):
                    for trims in range(4):
                        paper = ("grow", start, shape, [STEP] * steps + [("trim", "l")] * trims)
                        self.assertIs(takes_grow(machine, paper), steps == trims > 0)
            shape = (0, "r", ones(0), ones(0))
            self.assertIs(takes_grow(machine, ("grow", start, shape, [STEP, ("trim", "l"), ("pad", "r")])), True)
            self.assertIs(takes_grow(machine, ("grow", start, shape, [STEP, ("trim", "l")])), False)
            # Standing before a blank it faces the other way: the same cells and place.
            shape = (0, "l", ones(0), ())
            self.assertIs(takes_grow(machine, ("grow", start, shape, [STEP, STEP, ("trim", "l")])), False)
        shape = (0, "l", ones(0), ())
        to_left = Machine(mirrored_table(GOES_RIGHT))
        self.assertIs(takes_grow(to_left, ("grow", 3, shape, [STEP, ("trim", "r"), ("pad", "l")])), True)

    def test_a_shape_without_a_many_that_comes_round(self):
        machine = Machine(TO_AND_FRO)
        for start in range(0, 41):
            for steps in range(13):
                for cell in (0, 1):
                    paper = ("grow", start, (0, "l", ones(cell), ones(0)), [STEP] * steps)
                    comes_round = start % 4 == 2 * cell and steps in (4, 8, 12)
                    self.assertIs(takes_grow(machine, paper), comes_round)

    def test_the_bounds(self):
        machine = Machine(WRITES_RIGHT)
        # Behind five thousand steps of the walk that writes there are as many ones.
        shape = (0, "r", (many(250, *(1,) * 20),), ())
        self.assertIs(takes_grow(machine, ("grow", 5000, shape, [STEP] * 20 + [("join", "l", 0)])), True)
        self.assertIs(takes_grow(machine, ("grow", 4999, shape, [STEP] * 20 + [("join", "l", 0)])), False)
        self.assertIs(takes_grow(machine, ("grow", 5000, shape, [STEP] * 19 + [("join", "l", 0)])), False)


class NotTaken(unittest.TestCase):
    """One thing at a time is wrong."""

    def assert_not_taken(self, table, paper):
        before = repr(paper)
        with self.subTest(table=table, paper=paper):
            self.assertIs(takes_grow(Machine(table), paper), False)
            self.assertEqual(repr(paper), before)

    def rounds(self):
        return ROUNDS + [mirrored_round(*told) for told in ROUNDS]

    def test_no_moves(self):
        for table, start, shape, moves in self.rounds():
            self.assert_not_taken(table, ("grow", start, shape, []))
            self.assert_not_taken(table, ("grow", start, shape, ()))
        self.assert_not_taken(GOES_RIGHT, ("grow", 0, (0, "r", (), ()), []))
        self.assert_not_taken(STOPS_AT_ONCE, ("grow", 0, (0, "r", (), ()), []))

    def test_no_move_that_is_a_step(self):
        # Blanks beyond the list go into a many of blanks: the extra is one more, and the machine did nothing.
        for table in (GOES_RIGHT, STOPS_AT_ONCE, BEAVER_TWO, SWEEPS):
            for facing in "lr":
                shape = (0, facing, (many(0, 0),), (many(0, 0),))
                moves = (("pad", "l"), ("draw", "l", 1), ("pad", "r"), ("draw", "r", 1))
                self.assertEqual(plain_moved(table, shape[:3] + ((),), ("pad", "l"))[2], ones(0) + shape[2])
                self.assert_not_taken(table, ("grow", 0, shape, moves))
                self.assert_not_taken(table, ("grow", 0, shape[:3] + ((),), moves[:2]))
                self.assert_not_taken(table, ("grow", 0, shape[:2] + ((),) + shape[3:], moves[2:]))
                self.assert_not_taken(table, ("grow", 0, (0, facing, (), ()), (("pad", "l"), ("trim", "l"))))
        # The same with a step behind which all is as it was is taken.
        shape = (0, "r", (many(0, 0),), ())
        self.assertIs(takes_grow(Machine(GOES_RIGHT), ("grow", 0, shape, (STEP, ("join", "l", 0)))), True)

    def test_a_move_left_out(self):
        for table, start, shape, moves in self.rounds():
            for at in range(len(moves)):
                self.assert_not_taken(table, ("grow", start, shape, moves[:at] + moves[at + 1:]))

    def test_a_move_twice_or_in_another_place(self):
        for table, start, shape, moves in self.rounds():
            for at in range(len(moves)):
                move = moves[at:at + 1]
                for other in (moves[:at] + move + moves[at:], move + moves[:at] + moves[at + 1:]):
                    if other != moves:
                        paper = ("grow", start, shape, other)
                        self.assertIs(takes_grow(Machine(table), paper), plain_takes(table, paper))

    def test_other_numbers_in_a_move(self):
        for table, start, shape, moves in self.rounds():
            for at, move in enumerate(moves):
                if len(move) == 3:
                    for number in [other for other in range(-4, 9) if other != move[2]] + [True, False, None, "0", ()]:
                        paper = ("grow", start, shape, moves[:at] + (move[:2] + (number,),) + moves[at + 1:])
                        self.assert_not_taken(table, paper)

    def test_a_thing_that_is_no_move_among_them(self):
        without_many = (GOES_RIGHT, 0, (0, "r", (), ()), (STEP, ("trim", "l")))
        for table, start, shape, moves in self.rounds()[::4] + [without_many]:
            for wrong in NO_MOVES:
                for at in (0, 1, len(moves)):
                    self.assert_not_taken(table, ("grow", start, shape, moves[:at] + (wrong,) + moves[at:]))
                    self.assert_not_taken(table, ("grow", start, shape, list(moves[:at] + (wrong,) + moves[at:])))
                self.assert_not_taken(table, ("grow", start, shape, moves[:-1] + (wrong,)))

    def test_a_start_that_is_off(self):
        for table, start, shape, moves in list(all_rounds())[::3]:
            right = from_machine(laid_out(shape, 0))
            walked = plain_walk(table, FIRST, start + 40)
            for other in range(start + 41):
                if from_machine(walked[other]) != right:
                    self.assertIs(takes_grow(Machine(table), ("grow", other, shape, moves)), False)
            self.assert_not_taken(table, ("grow", start + 1, shape, moves))
            self.assert_not_taken(table, ("grow", start - 1, shape, moves))

    def test_a_start_that_is_no_number(self):
        for table, start, shape, moves in self.rounds():
            for wrong in (-1, -2, -FAR, None, "0", "", (), (0,), [], [0], True, False):
                self.assert_not_taken(table, ("grow", wrong, shape, moves))
        # At 1 and at 0 these hold; True and False are no numbers.
        shape = (0, "r", (), ())
        for start, wrong in ((0, False), (1, True)):
            self.assertIs(takes_grow(Machine(GOES_RIGHT), ("grow", start, shape, (STEP, ("trim", "l")))), True)
            self.assert_not_taken(GOES_RIGHT, ("grow", wrong, shape, (STEP, ("trim", "l"))))

    def test_a_start_that_is_not_done(self):
        for table, stop in ((STOPS_AT_ONCE, 0), (BEAVER_TWO, 5)):
            state, place, marks = plain_walk(table, FIRST, stop)[-1]
            cells = dict(marks)
            low, high = min([place] + list(cells)), max([place] + list(cells))
            shape = (
                state, "r", ones(*[cells.get(at, 0) for at in range(low, place)]),
                ones(*[cells.get(at, 0) for at in range(place, high + 1)]),
            )
            for start in (stop, stop + 1, stop + 2, 5000):
                for moves in ([STEP], [STEP, STEP], [STEP, ("trim", "l")]):
                    self.assert_not_taken(table, ("grow", start, shape, moves))
        # From this shape on it goes on and on, but it never comes to it: it stops ahead of that.
        table = [[(0, "r", 1), None], [None, (1, "r", 0)]]
        goes_on = [[(0, "r", 1), None], [(0, "r", 1), (1, "r", 0)]]
        paper = ("grow", 1, (1, "r", (), ()), (STEP, ("trim", "l")))
        self.assertIs(takes_grow(Machine(goes_on), paper), True)
        self.assert_not_taken(table, paper)

    def test_another_state_or_facing(self):
        for table, start, shape, moves in list(all_rounds())[::2]:
            for state in range(len(table) + 2):
                if state != shape[0]:
                    self.assert_not_taken(table, ("grow", start, (state,) + shape[1:], moves))
            other = (shape[0], {"l": "r", "r": "l"}[shape[1]]) + shape[2:]
            self.assert_not_taken(table, ("grow", start, other, moves))

    def test_an_extra_that_differs(self):
        for table, start, shape, moves in list(all_rounds())[::2]:
            for side in (2, 3):
                for at, token in enumerate(shape[side]):
                    if token[0] == "many":
                        for extra in {token[2] + 1, token[2] + 2, token[2] - 1, token[2] + 50} - {-1}:
                            tokens = shape[side][:at] + (token[:2] + (extra,),) + shape[side][at + 1:]
                            other = shape[:side] + (tokens,) + shape[side + 1:]
                            self.assert_not_taken(table, ("grow", start, other, moves))

    def test_extras_that_do_not_all_come_to_one_more(self):
        # Blanks go into a many of blanks: none, one, two, three of them.
        for many_steps in range(1, 4):
            for joined in range(many_steps + 1):
                moves = (STEP,) * many_steps + (("join", "l", 0),) * joined
                for left_over in range(many_steps + 1):
                    paper = ("grow", 0, (0, "r", (many(0, 0),) + ones(*[0] * left_over), ()), moves)
                    taken = joined == 1 == many_steps
                    self.assertIs(takes_grow(Machine(GOES_RIGHT), paper), taken, paper)

    def test_one_of_two_manies_is_not_raised(self):
        self.assertIs(takes_grow(Machine(BOTH_ENDS), ("grow", 2, BOTH_ENDS_SHAPE, BOTH_ENDS_MOVES)), True)
        self.assert_not_taken(BOTH_ENDS, ("grow", 2, BOTH_ENDS_SHAPE, BOTH_ENDS_MOVES[:-1]))
        self.assert_not_taken(BOTH_ENDS, ("grow", 2, BOTH_ENDS_SHAPE, BOTH_ENDS_MOVES[:-2] + BOTH_ENDS_MOVES[-1:]))
        twice = BOTH_ENDS_MOVES + BOTH_ENDS_MOVES
        self.assert_not_taken(BOTH_ENDS, ("grow", 2, BOTH_ENDS_SHAPE, twice))

    def test_a_token_that_differs(self):
        for table, start, shape, moves in list(all_rounds())[::2]:
            for side in (2, 3):
                for at, token in enumerate(shape[side]):
                    others = [("one", sign) for sign in range(len(table[0]) + 1)] + [many(0, 1), many(0, 0)]
                    others += [()] if token[0] == "many" else []
                    for other in others:
                        if other != token:
                            tokens = shape[side][:at] + ((other,) if other else ()) + shape[side][at + 1:]
                            paper = ("grow", start, shape[:side] + (tokens,) + shape[side + 1:], moves)
                            self.assertIs(takes_grow(Machine(table), paper), False, paper)

    def test_a_shape_that_is_none(self):
        for table, start, shape, moves in (ROUNDS[1], (GOES_RIGHT, 0, (0, "r", (), ()), (STEP, ("trim", "l")))):
            for wrong in wrong_shapes():
                self.assert_not_taken(table, ("grow", start, wrong, moves))

    def test_lists_in_the_places_of_tuples(self):
        paper = ("grow", 0, (0, "r", (), (("many", (1,), 0),)), sweeper_moves((1,)))
        table = sweeper((1,))
        self.assertIs(takes_grow(Machine(table), paper), True)
        self.assert_not_taken(table, list(paper))
        self.assert_not_taken(table, paper[:2] + (list(paper[2]),) + paper[3:])
        self.assert_not_taken(table, paper[:2] + ((0, "r", (), (["many", (1,), 0],)),) + paper[3:])
        self.assert_not_taken(table, paper[:2] + ((0, "r", (), (("many", [1], 0),)),) + paper[3:])
        for at, move in enumerate(paper[3]):
            self.assert_not_taken(table, paper[:3] + (paper[3][:at] + (list(move),) + paper[3][at + 1:],))

    def test_true_and_false_in_the_places_of_numbers(self):
        table = sweeper((1,))
        moves = sweeper_moves((1,))
        # Behind two steps there is one copy, at first there is none.
        for start, extra in ((0, 0), (2, 1)):
            paper = ("grow", start, (0, "r", (), (("many", (1,), extra),)), moves)
            self.assertIs(takes_grow(Machine(table), paper), True)
            self.assert_not_taken(table, ("grow", start, (False, "r", (), (("many", (1,), extra),)), moves))
            self.assert_not_taken(table, ("grow", start, (0, "r", (), (("many", (True,), extra),)), moves))
            self.assert_not_taken(table, ("grow", start, (0, "r", (), (("many", (1,), bool(extra)),)), moves))
        self.assert_not_taken(table, ("grow", 0, (0, "r", (), (("many", (1,), 0),)),
                                      moves[:-2] + (("draw", "r", True), ("trim", "l"))))
        table = GOES_RIGHT
        for wrong in (False, True):
            self.assert_not_taken(table, ("grow", 0, (0, "r", (("one", wrong),), ()), (STEP, ("trim", "l"))))

    def test_too_few_or_too_many(self):
        for table, start, shape, moves in self.rounds()[::3]:
            paper = ("grow", start, shape, moves)
            for wrong in (paper[:3], paper[:2], paper[:1], (), paper + (None,), paper + (moves,), paper + ((),),
                          paper[1:], ("grow",) + paper, ("grow", start, moves), ("grow", shape, moves), (paper,),
                          ("grow", start, moves, shape), ("grow", shape, start, moves)):
                self.assert_not_taken(table, wrong)

    def test_moves_that_are_no_list(self):
        for table, start, shape, moves in self.rounds()[::3]:
            for wrong in (None, True, False, 0, 1, "", "step", "so", ("step",), ["step"], {}):
                self.assert_not_taken(table, ("grow", start, shape, wrong))

    def test_another_kind(self):
        for table, start, shape, moves in self.rounds()[::3]:
            for kind in ("", "Grow", "GROW", "grows", "grow ", "same", "shifted", "wall", None, True, 0, ("grow",),
                         ["grow"]):
                self.assert_not_taken(table, (kind, start, shape, moves))

    def test_what_is_no_paper(self):
        for wrong in (None, True, False, 0, 1, -1, FAR, "", "grow", (), [], ("same", 0, 1), ("shifted", 0, 1),
                      ("wall", 1, [(0,)], [(0,)], [((0,), 0, 0, (0,))])):
            self.assert_not_taken(GOES_RIGHT, wrong)
            self.assert_not_taken(SWEEPS, wrong)

    def test_the_machine_stopped_at_an_entry_that_each_round_needs(self):
        for table, start, shape, moves in self.rounds():
            needed = set()
            # At a count of one and more each round is gone all through.
            for state, place, marks in plain_walk(table, laid_out(shape, 2), sum(
                steps_of(table, here, rest[0], 2) for _, here, rest in along(table, 0, shape, moves)
            ))[:-1]:
                needed.add((state, dict(marks).get(place, 0)))
            self.assertGreater(len(needed), 0)
            for state, sign in needed:
                stopped = [list(row) for row in table]
                stopped[state][sign] = None
                self.assert_not_taken(stopped, ("grow", start, shape, moves))


class AgainstPlainMoves(unittest.TestCase):
    def test_papers_changed_by_chance(self):
        """What is drawn by lot is the same in each run."""
        spread = Spread(7)
        taken = 0
        rounds = list(all_rounds())
        for _ in range(3000):
            table, start, shape, moves = rounds[spread.below(len(rounds))]
            moves = list(moves)
            for _ in range(spread.below(3)):
                at = spread.below(len(moves) + 1)
                others = all_moves(shape)
                moves[at:at + spread.below(2)] = [others[spread.below(len(others))]] * spread.below(3)
            if spread.below(4) == 0:
                start += spread.below(3)
            paper = ("grow", start, shape, moves)
            expected = plain_takes(table, paper)
            with self.subTest(table=table, paper=paper):
                self.assertIs(takes_grow(Machine(table), paper), expected)
            taken += expected
        self.assertGreater(taken, 300)
        self.assertLess(taken, 2700)


class WhatIsHandedIn(unittest.TestCase):
    def test_stays_as_it_was(self):
        for table, start, shape, moves in list(all_rounds())[::4]:
            paper = ("grow", start, with_lists(shape), list(moves))
            before = copied(paper)
            machine = Machine(table)
            self.assertIs(takes_grow(machine, paper), True)
            self.assertIs(takes_grow(machine, paper), True)
            self.assertEqual(repr(paper), repr(before))
            self.assertEqual(machine.table, as_tuples(table))

    def test_is_not_kept(self):
        moves = list(SWEEPS_MOVES)
        shape = with_lists(SWEEPS_SHAPE)
        machine = Machine(SWEEPS)
        self.assertIs(takes_grow(machine, ("grow", 0, shape, moves)), True)
        moves.pop()
        self.assertIs(takes_grow(machine, ("grow", 0, shape, moves)), False)
        moves.append(SWEEPS_MOVES[-1])
        self.assertIs(takes_grow(machine, ("grow", 0, shape, moves)), True)
        shape[3].append(("one", 1))
        self.assertIs(takes_grow(machine, ("grow", 0, shape, moves)), False)


if __name__ == "__main__":
    unittest.main()
