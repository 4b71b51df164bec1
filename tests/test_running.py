"""[8] to [11] Running."""

import itertools
import time

from stillranges import errors
from stillranges.running import (
    all_reached, can_go, first_left, first_run_to, holds_state, is_run, reached, shortest_leaving, state_behind,
    states_of, steps_from, stuck_states)
from tests.helpers import ALL_DEEDS, CLIMB, FAR, LOOP, Case, any_program, any_span, dice, moves_from

NAMES = ["x", "y", "z"]


def one_step(deed, start=((0, 0), (0, 0), (0, 0))):
    return (NAMES, 2, list(start), [(0, 1, deed)])


# For each deed the numbers behind it from the state with 2, -1, 4 (and what comes in), None where it can't go.
BEHIND = {
    ("go",): [2, -1, 4],
    ("set", "y", 7): [2, 7, 4],
    ("add", "x", "y", 3): [2, -1, 4],
    ("add", "z", "z", -5): [2, -1, -1],
    ("turn", "x", "z", 1): [-3, -1, 4],
    ("turn", "y", "y", 0): [2, 1, 4],
    ("least", "x", "y", "z"): [-1, -1, 4],
    ("least", "z", "x", "x"): [2, -1, 2],
    ("greatest", "y", "x", "z"): [2, 4, 4],
    ("greatest", "x", "x", "y"): [2, -1, 4],
    ("upto", "x", 2): [2, -1, 4],
    ("upto", "x", 1): None,
    ("from", "z", 4): [2, -1, 4],
    ("from", "z", 5): None,
    ("below", "x", "z", -2): [2, -1, 4],
    ("below", "x", "z", -3): None,
    ("equal", "x", "y", 3): [2, -1, 4],
    ("equal", "x", "y", 2): None,
    ("equal", "z", "x", 2): [2, -1, 4],
}


class Moves(Case):
    def test_each_deed(self):
        for deed, behind in BEHIND.items():
            program = one_step(deed)
            state = (0, [2, -1, 4])
            self.assertIs(can_go(program, state, (0, None)), behind is not None, deed)
            self.alike(steps_from(program, state), [] if behind is None else [0])
            if behind is None:
                move = (0, None)
                self.refused(errors.InvalidStep, move, state_behind, program, state, move)
            else:
                self.alike(state_behind(program, state, (0, None)), (1, behind))
            self.alike(state, (0, [2, -1, 4]))
            self.assertIs(can_go(program, (1, [2, -1, 4]), (0, None)), False)
            self.alike(steps_from(program, (1, [2, -1, 4])), [])

    def test_inputs(self):
        for span, held, left in (((-1, 2), [-1, 0, 2], [-2, 3, FAR]), ((None, 2), [-FAR, 2], [3]),
                                 ((2, None), [2, FAR], [1]), ((None, None), [0, FAR, -FAR], []), ((5, 5), [5], [4, 6])):
            program = one_step(("input", "y", span))
            for number in held:
                self.assertIs(can_go(program, (0, [1, 1, 1]), (0, number)), True)
                self.alike(state_behind(program, (0, [1, 1, 1]), (0, number)), (1, [1, number, 1]))
            for number in left + [None, True, False, "2", [2], (2,)]:
                self.assertIs(can_go(program, (0, [1, 1, 1]), (0, number)), False)
            self.alike(steps_from(program, (0, [0, 0, 0])), [0])

    def test_bent_moves(self):
        for move in ((0, 0), (0,), (0, None, None), [0, None], (1, None), (-1, None), (True, None), (False, None),
                     ("0", None), (None, None), ([0], None), (0, [None]), None, 0):
            self.assertIs(can_go(CLIMB, (0, [0]), move), False)
            self.refused(errors.InvalidStep, move, state_behind, CLIMB, (0, [0]), move)

    def test_steps_in_order(self):
        program = (["x"], 1, [(0, 0)], [(0, 0, ("upto", "x", 1)), (0, 0, ("go",)), (0, 0, ("from", "x", 1)),
                                        (0, 0, ("input", "x", (0, 1)))])
        self.alike([steps_from(program, (0, [number])) for number in (0, 1, 2)], [[0, 1, 3], [0, 1, 2, 3], [1, 2, 3]])


class Runs(Case):
    walk = ([1], [(0, None), (1, None), (0, None), (1, None), (2, None)])

    def test_states(self):
        self.assertIs(is_run(CLIMB, self.walk), True)
        self.alike(states_of(CLIMB, self.walk), [(0, [1]), (1, [1]), (0, [2]), (1, [2]), (0, [3]), (2, [3])])
        self.alike(states_of(CLIMB, ([0], [])), [(0, [0])])

    def test_bent_runs(self):
        numbers, moves = self.walk
        bent = [(numbers, moves[:at] + moves[at + 1:]) for at in range(len(moves) - 1)]
        bent += [(numbers, moves[:at] + [wrong] + moves[at + 1:]) for at in range(len(moves))
                 for wrong in ((moves[at][0], 0), [moves[at][0], None], (3, None), None, (bool(at), None))]
        bent += [([number], moves) for number in (-1, 0, 2, True, None, "1")]
        bent += [([], moves), ([1, 1], moves), ((1,), moves), (numbers, tuple(moves)), [numbers, moves], (numbers,),
                 (numbers, moves, []), (numbers, None), None, (numbers, moves + [(2, None)]), (1, moves)]
        for run in bent:
            self.assertIs(is_run(CLIMB, run), False, run)
            self.refused(errors.InvalidRun, run, states_of, CLIMB, run)
            self.refused(errors.InvalidRun, run, first_left, CLIMB, [None] * 3, run)

    def test_runs_begin_at_the_place_0_in_the_start(self):
        program = (["x", "y"], 2, [(None, 3), (-FAR, -FAR)], [(1, 0, ("go",)), (0, 1, ("input", "x", (None, 0)))])
        self.assertIs(is_run(program, ([-FAR, -FAR], [(1, -FAR), (0, None), (1, 0)])), True)
        self.assertIs(is_run(program, ([3, -FAR], [(1, 1)])), False)
        self.assertIs(is_run(program, ([4, -FAR], [])), False)
        self.assertIs(is_run(program, ([3, 1 - FAR], [])), False)
        self.assertIs(is_run(program, ([3, -FAR], [(0, None)])), False)

    def test_deeds_of_all_kinds_in_one_run(self):
        program = (NAMES, 1, [(2, 2), (-1, -1), (4, 4)], [(0, 0, deed) for deed in ALL_DEEDS])
        moves = [(1, None), (2, None), (4, None), (6, 1), (11, None), (8, None)]
        self.alike([numbers for _, numbers in states_of(program, ([2, -1, 4], moves))],
                   [[2, -1, 4], [-4, -1, 4], [1, -1, 4], [1, -1, 4], [1, 1, 4], [1, 4, 4], [4, 4, 4]])


def all_runs(program, most):
    """All runs of at most so many moves, by their lengths, in order, with their last states."""
    start = [list(numbers) for numbers in itertools.product(*[range(low, high + 1) for low, high in program[2]])]
    level = [((numbers, []), (0, numbers)) for numbers in start]
    levels = [level]
    for _ in range(most):
        level = [((numbers, moves + [move]), state_behind(program, state, move))
                 for (numbers, moves), state in level for move in moves_from(program, state)]
        levels.append(level)
    return levels


def first_runs(program, most):
    """The first one of the shortest runs to each state, found by comparing all the runs themselves."""
    firsts = {}
    for level in all_runs(program, most):
        here = {}
        for run, (place, numbers) in level:
            here.setdefault((place, tuple(numbers)), []).append(run)
        for key, runs in here.items():
            firsts.setdefault(key, min(runs))
    return firsts


class Reached(Case):
    def test_against_all_runs(self):
        chance = dice(3)
        for _ in range(60):
            program = any_program(chance, names=2, places=3, steps=4)
            firsts = first_runs(program, 4)
            for most in range(5):
                expected = sorted(key for key, run in firsts.items() if len(run[1]) <= most)
                self.alike(reached(program, most), [(place, list(numbers)) for place, numbers in expected])

    def test_first_runs_against_all_runs(self):
        chance = dice(11)
        checked = 0
        for _ in range(150):
            program = any_program(chance, names=2, places=3, steps=4)
            try:
                states = all_reached(program)
            except errors.TooMany:
                continue
            firsts = first_runs(program, 4)
            for place, numbers in states:
                run = first_run_to(program, (place, numbers))
                self.alike(states_of(program, run)[-1], (place, numbers))
                if (place, tuple(numbers)) in firsts:
                    self.alike(run, firsts[(place, tuple(numbers))])
                    checked += 1
                else:
                    self.assertGreater(len(run[1]), 4)
            table = [chance.choice([None, [any_span(chance) for _ in range(2)]]) for _ in range(3)]
            left = [state for state in states if not holds_state(program, table, state)]
            expected = min((first_run_to(program, state) for state in left),
                           key=lambda run: (len(run[1]), run), default=None)
            self.alike(shortest_leaving(program, table), expected)
            self.alike(stuck_states(program), [state for state in states if not moves_from(program, state)])
        self.assertGreater(checked, 500)

    def test_all_reached_is_reached_behind_many_moves(self):
        self.alike(all_reached(CLIMB), reached(CLIMB, 7))
        self.assertEqual(len(reached(CLIMB, 6)), 8)
        self.alike(reached(CLIMB, FAR), all_reached(CLIMB))
        self.alike(reached(CLIMB, 0), [(0, [0]), (0, [1])])

    def test_no_run(self):
        self.assertIsNone(first_run_to(CLIMB, (2, [4])))
        self.assertIsNone(first_run_to(CLIMB, (1, [3])))
        self.assertIsNone(first_run_to(CLIMB, (0, [-1])))
        self.alike(first_run_to(CLIMB, (0, [1])), ([1], []))
        self.assertIsNone(first_run_to((["x"], 3, [(0, 0)], []), (2, [0])))
        self.assertIsNone(shortest_leaving(CLIMB, [[(0, 3)], [(0, 2)], [(3, 3)]]))
        self.alike(shortest_leaving(CLIMB, [None] * 3), ([0], []))

    def test_most(self):
        for most in (-1, True, False, None, "1", [1], (1,), -FAR):
            self.refused(errors.InvalidNumber, most, reached, CLIMB, most)


class TooMany(Case):
    def refused_by_all(self, program, state, table):
        for function, rest in ((all_reached, ()), (stuck_states, ()), (first_run_to, (state,)),
                               (shortest_leaving, (table,)), (reached, (10000,))):
            self.too_many(function, program, *rest)

    def test_just_2000_and_2001_begun_with(self):
        for low, high in ((0, 1999), (-FAR, 1999 - FAR)):
            program = (["x"], 1, [(low, high)], [])
            self.assertEqual(len(all_reached(program)), 2000)
            self.assertEqual(len(reached(program, 0)), 2000)
            self.assertEqual(len(stuck_states(program)), 2000)
            self.alike(first_run_to(program, (0, [high])), ([high], []))
            self.refused_by_all((["x"], 1, [(low, high + 1)], []), (0, [low]), [[(low, low)]])
            self.too_many(reached, (["x"], 1, [(low, high + 1)], []), 0)

    def test_several_names(self):
        five = (["a", "b", "c", "d", "e"], 1, [(0, 3), (0, 3), (0, 4), (0, 4), (0, 4)], [])
        self.assertEqual(len(all_reached(five)), 2000)
        self.too_many(all_reached, five[:2] + ([(0, 3), (0, 3), (0, 4), (0, 4), (0, 5)], []))
        self.too_many(all_reached, five[:2] + ([(0, FAR)] * 5, []))

    def test_just_2000_and_2001_gone_to(self):
        program = (["x"], 2, [(0, 0)], [(0, 1, ("input", "x", (1, 1999)))])
        self.assertEqual(len(all_reached(program)), 2000)
        more = (["x"], 2, [(0, 0)], [(0, 1, ("input", "x", (1, 2000)))])
        self.refused_by_all(more, (0, [0]), [None, None])
        self.alike(reached(more, 0), [(0, [0])])
        self.too_many(reached, more, 1)

    def test_just_2000_and_2001_round_a_loop(self):
        loop = (["x"], 2, [(0, 0)], [(0, 1, ("upto", "x", 998)), (1, 0, ("add", "x", "x", 1))])
        self.assertEqual(len(all_reached(loop)), 1999)
        both = (["x"], 2, [(0, 0)], [(0, 1, ("upto", "x", 999)), (1, 0, ("add", "x", "x", 1))])
        self.too_many(all_reached, both)
        self.assertEqual(len(reached(both, 1999)), 2000)
        self.too_many(reached, both, 2000)
        self.assertEqual(len(first_run_to(loop, (0, [999]))[1]), 1998)

    def test_endlessly_many(self):
        up = (["x"], 1, [(0, 0)], [(0, 0, ("add", "x", "x", 1))])
        self.refused_by_all(up, (0, [5]), [[(None, None)]])
        self.assertEqual(len(reached(up, 1999)), 2000)
        self.too_many(reached, up, 2000)
        for span in ((None, 0), (0, None), (None, None), (0, FAR), (-FAR, FAR)):
            self.refused_by_all((["x"], 1, [span], []), (0, [0]), [[(None, None)]])
            self.too_many(reached, (["x"], 1, [span], []), 0)
            late = (["x"], 3, [(0, 0)], [(0, 1, ("go",)), (1, 2, ("input", "x", span))])
            self.assertEqual(len(reached(late, 1)), 2)
            self.too_many(reached, late, 2)
            self.refused_by_all(late, (0, [0]), [None] * 3)
            shut = (["x"], 3, [(0, 0)], [(0, 1, ("from", "x", 1)), (1, 2, ("input", "x", span))])
            self.alike(all_reached(shut), [(0, [0])])

    def test_errors_ahead_of_too_many(self):
        up = (["x"], 1, [(0, 0)], [(0, 0, ("add", "x", "x", 1))])
        for state, table in (((0, []), []), ((1, [0]), [[]]), (None, None)):
            self.refused(errors.InvalidState, state, first_run_to, up, state)
            self.refused(errors.InvalidTable, table, shortest_leaving, up, table)
        self.refused(errors.InvalidNumber, -1, reached, up, -1)
        self.too_many(first_run_to, up, (0, [0]))

    def test_within_seconds(self):
        began = time.perf_counter()
        names = ["a", "b", "c", "d", "e"]
        wide = (["a"], 1, [(0, 0)], [(0, 0, ("input", "a", (0, 1999))) for _ in range(30)])
        self.assertEqual(len(all_reached(wide)), 2000)
        self.alike(first_run_to(wide, (0, [1999])), ([0], [(0, 1999)]))
        self.too_many(all_reached, (["a"], 2, [(0, 0)], [(0, 1, ("go",))] + wide[3]))
        steps = [(at % 12, (at * 5 + 1) % 12, ("input", names[at % 5], (0, 2))) for at in range(30)]
        told = (names, 12, [(0, 0)] * 5, steps)
        self.assertLessEqual(len(reached(told, 4)), 2000)
        long = (["x"], 1, [(0, 0)], [(0, 0, ("upto", "x", 1998)), (0, 0, ("add", "x", "x", 1))])
        self.too_many(all_reached, long)
        line = (["x"], 2, [(0, 0)], [(0, 1, ("upto", "x", 998)), (1, 0, ("add", "x", "x", 1))])
        self.assertEqual(len(reached(line, 10000)), 1999)
        self.assertLess(time.perf_counter() - began, 20)


class Tables(Case):
    def test_what_a_table_holds(self):
        table = [[(0, 3)], [(None, 2)], None]
        for state, expected in (((0, [0]), True), ((0, [3]), True), ((0, [4]), False), ((0, [-1]), False),
                                ((1, [-FAR]), True), ((1, [3]), False), ((2, [3]), False)):
            self.assertIs(holds_state(CLIMB, table, state), expected)
        two = (["x", "y"], 1, [(0, 0), (0, 0)], [])
        held = [holds_state(two, [[(0, 1), (5, None)]], (0, [x, y])) for x in (0, 1, 2) for y in (4, 5, FAR)]
        self.alike(held, [False, True, True, False, True, True, False, False, False])

    def test_where_a_run_leaves(self):
        run = ([1], [(0, None), (1, None), (0, None), (1, None), (2, None)])
        self.assertIsNone(first_left(CLIMB, [[(0, 3)], [(0, 2)], [(3, 3)]], run))
        self.alike([first_left(CLIMB, table, run) for table in (
            [None] * 3, [[(0, 3)], None, None], [[(0, 1)], [(0, 2)], None], [[(0, 3)], [(1, 1)], None],
            [[(0, 2)], [(0, 2)], None], [[(0, 3)], [(0, 2)], None], [[(0, 3)], [(0, 2)], [(4, 4)]])],
            [0, 1, 2, 3, 4, 5, 5])
        self.assertIsNone(first_left(CLIMB, [[(1, 1)], None, None], ([1], [])))
        self.alike(first_left(CLIMB, [[(1, 1)], None, None], ([0], [])), 0)

    def test_no_run_leaves_a_kept_table(self):
        self.assertIsNone(shortest_leaving(LOOP, [[(0, 10)], [(0, 9)], [(10, 10)]]))
        self.assertIsNone(shortest_leaving(LOOP, [[(None, None)], [(None, None)], [(10, None)]]))
