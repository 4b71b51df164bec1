"""[47] to [50] Widths, sums, and wrapped running."""

import time

from stillranges import errors
from stillranges.least import least_table
from stillranges.running import is_run, states_of
from stillranges.widths import (
    first_unlike, fits, is_wrapped_run, start_fits, sum_range, wanting, wants_check, width_of, widths_of, wrapped,
    wrapped_states)
from tests.helpers import CLIMB, FAR, Case, any_program, dice
from tests.test_least import any_great

NAMES = ["x", "y", "z"]


def one_step(deed, start=((0, 0), (0, 0), (0, 0))):
    return (NAMES, 2, list(start), [(0, 1, deed)])


def wrapped_plainly(width, number):
    while number > 2 ** (width - 1) - 1:
        number -= 2 ** width
    while number < -2 ** (width - 1):
        number += 2 ** width
    return number


def step_plainly(program, width, state, move):
    """The state behind a move on a machine of a width, None if it can't go: read off the document."""
    (place, numbers), (number_of_step, given) = state, move
    if not 0 <= number_of_step < len(program[3]):
        return None
    source, target, deed = program[3][number_of_step]
    word, now = deed[0], dict(zip(program[0], numbers))
    if source != place or (word == "input") != (given is not None):
        return None
    if word == "input":
        low, high = deed[2]
        if (low is not None and given < low) or (high is not None and given > high):
            return None
        now[deed[1]] = wrapped_plainly(width, given)
    elif word == "set":
        now[deed[1]] = wrapped_plainly(width, deed[2])
    elif word == "add":
        now[deed[1]] = wrapped_plainly(width, now[deed[2]] + deed[3])
    elif word == "turn":
        now[deed[1]] = wrapped_plainly(width, deed[3] - now[deed[2]])
    elif word in ("least", "greatest"):
        now[deed[1]] = (min if word == "least" else max)(now[deed[2]], now[deed[3]])
    elif word == "upto" and now[deed[1]] > deed[2] or word == "from" and now[deed[1]] < deed[2]:
        return None
    elif word == "below" and now[deed[1]] > wrapped_plainly(width, now[deed[2]] + deed[3]):
        return None
    elif word == "equal" and now[deed[1]] != wrapped_plainly(width, now[deed[2]] + deed[3]):
        return None
    return (target, [now[name] for name in program[0]])


def any_moves(chance, program, width, numbers):
    """Moves that go one behind the other, wrapped if there is a width, and perhaps one more that may not."""
    state = (0, [number if width is None else wrapped_plainly(width, number) for number in numbers])
    moves = []
    for _ in range(8):
        told = [(step, chance.randint(*deed[2]) if deed[0] == "input" else None) for step, (_, _, deed) in enumerate(program[3])]
        going = [move for move in told if step_plainly(program, width or 99, state, move) is not None]
        if not going:
            break
        move = chance.choice(going if chance.random() < 0.9 else told)
        moves.append(move)
        state = step_plainly(program, width or 99, state, move)
        if state is None:
            break
    return moves


class Widths(Case):
    def test_the_ends_and_one_number_beyond(self):
        for width in (1, 2, 3, 8, 64, 65, 99, 200, 201):
            low, high = -(2 ** (width - 1)), 2 ** (width - 1) - 1
            for number, expected in ((low, True), (high, True), (low - 1, False), (high + 1, False), (0, True), (-1, True)):
                self.assertIs(fits(width, number), expected)
            self.alike([wrapped(width, number) for number in (low, high, low - 1, high + 1)], [low, high, high, low])
            self.alike(wrapped(width, high + 2 ** width * 3), high)
            self.alike(wrapped(width, low - 2 ** width * 5), low)
            self.alike(width_of((low, high)), width)
            self.alike(width_of((low, low)), width)
            self.alike(width_of((0, high)), width)
            self.alike(width_of((low - 1, high)), width + 1)
            self.alike(width_of((low, high + 1)), width + 1)

    def test_of_small_numbers(self):
        for width in (1, 2, 3, 4):
            for number in range(-40, 41):
                self.alike(wrapped(width, number), wrapped_plainly(width, number))
                self.assertIs(fits(width, number), wrapped_plainly(width, number) == number)
        for low in range(-9, 10):
            for high in range(low, 10):
                expected = [width for width in range(1, 9) if fits(width, low) and fits(width, high)]
                self.alike(width_of((low, high)), expected[0])
        self.alike(width_of((0, 0)), 1)
        self.alike(width_of((-1, 0)), 1)
        for span in ((None, 3), (3, None), (None, None)):
            self.assertIsNone(width_of(span))

    def test_far_numbers(self):
        for number in (FAR, -FAR, 12345678901234567890):
            for width in (1, 7, 64, 97, 98, 200):
                self.assertEqual((wrapped(width, number) - number) % 2 ** width, 0)
                self.assertIs(fits(width, wrapped(width, number)), True)
        self.assertIs(fits(FAR, FAR), True)
        self.alike(wrapped(FAR, -FAR), -FAR)

    def test_widths_that_are_none(self):
        for width in (0, -1, True, None, "8", [8], (8,), -FAR):
            for function, rest in ((fits, [1]), (wrapped, [1])):
                self.refused(errors.InvalidWidth, width, function, width, *rest)
                self.refused(errors.InvalidWidth, width, function, width, None)
            for function, rest in ((start_fits, []), (wanting, []), (is_wrapped_run, [None]), (wrapped_states, [None]),
                                   (first_unlike, [None])):
                self.refused(errors.InvalidWidth, width, function, CLIMB, width, *rest)
            self.refused(errors.InvalidWidth, width, wants_check, CLIMB, 0, width)
            self.refused(errors.InvalidStep, None, wants_check, CLIMB, None, width)

    def test_of_programs(self):
        self.alike(widths_of(CLIMB), [3])
        program = (["x", "y", "z"], 3, [(0, 7), (-9, 3), (0, None)], [(0, 1, ("set", "z", 3)), (1, 1, ("set", "x", -300)), (
            2, 2, ("set", "y", FAR))])
        self.alike(widths_of(program), [10, 5, None])
        self.alike([start_fits(program, width) for width in (4, 5, 200)], [False] * 3)
        fine = program[:2] + ([(0, 7), (-9, 3), (0, 1)],) + program[3:]
        self.alike([start_fits(fine, width) for width in (1, 4, 5, 200)], [False, False, True, True])
        chance = dice(121)
        for _ in range(150):
            told = any_program(chance, names=2, places=3, steps=4, endless=0.1)
            rows = [row for row in least_table(told) if row is not None]
            expected = []
            for at in range(2):
                each = [width_of(row[at]) for row in rows]
                expected.append(None if None in each else max(each))
            self.alike(widths_of(told), expected)


class Sums(Case):
    def test_each_deed(self):
        cases = {
            ("go",): None, ("set", "x", 7): (7, 7), ("add", "x", "y", 3): (1, 8), ("add", "x", "z", 3): (None, 7),
            ("turn", "x", "y", 3): (-2, 5), ("turn", "y", "z", -3): (-7, None), ("input", "x", (-2, 6)): (-2, 6),
            ("input", "x", (None, 6)): (None, 6), ("input", "x", (None, None)): (None, None), ("least", "x", "y", "z"): None,
            ("greatest", "x", "y", "z"): None, ("upto", "x", 99): None, ("from", "x", -99): None,
            ("below", "x", "y", 100): (98, 105), ("below", "y", "z", 1): (None, 5), ("equal", "x", "y", -1): (-3, 4),
            ("equal", "y", "x", FAR): (FAR, FAR + 1)}
        for deed, expected in cases.items():
            program = (NAMES, 3, [(0, 1), (-2, 5), (None, 4)], [(0, 1, deed), (2, 1, deed)])
            self.alike(sum_range(program, 0), expected)
            self.assertIsNone(sum_range(program, 1))
            for width in (1, 3, 4, 8, 100):
                wants = expected is not None and (None in expected or width_of(expected) > width)
                self.assertIs(wants_check(program, 0, width), wants)
                self.assertIs(wants_check(program, 1, width), False)
                self.alike(wanting(program, width), [0] if wants else [])

    def test_whether_numbers_pass_a_test_or_not(self):
        program = (["x", "y"], 2, [(0, 0), (0, 9)], [(0, 1, ("below", "y", "x", 1)), (1, 1, ("equal", "y", "x", 0))])
        self.alike([sum_range(program, step) for step in (0, 1)], [(1, 1), (0, 0)])
        shut = (["x", "y"], 1, [(0, 0), (5, 9)], [(0, 0, ("below", "y", "x", 1)), (0, 0, ("equal", "x", "y", 3))])
        self.alike([sum_range(shut, step) for step in (0, 1)], [(1, 1), (8, 12)])

    def test_of_the_climb(self):
        self.alike([sum_range(CLIMB, step) for step in range(3)], [None, (1, 3), None])
        self.alike([wanting(CLIMB, width) for width in (1, 2, 3, 200)], [[1], [1], [], []])
        self.refused(errors.InvalidStep, 3, sum_range, CLIMB, 3)

    def test_within_seconds_up_to_the_limits(self):
        chance = dice(122)
        began = time.perf_counter()
        for top in (2, 10 ** 9, FAR):
            program = any_great(chance, top)
            for width in (1, 100, 200):
                told = wanting(program, width)
                self.alike([step for step in range(30) if wants_check(program, step, width)], told)
        self.assertLess(time.perf_counter() - began, 30)


class WrappedRuns(Case):
    def test_each_deed_wrapped(self):
        """At 3 bits, from -4 to 3, from the state with 2, -3, 3."""
        for deed, behind in ((("go",), [2, -3, 3]), (("set", "x", 4), [-4, -3, 3]), (("set", "x", 11), [3, -3, 3]),
                             (("add", "x", "x", 2), [-4, -3, 3]), (("add", "y", "y", -2), [2, 3, 3]),
                             (("turn", "z", "y", 2), [2, -3, -3]), (("least", "x", "y", "z"), [-3, -3, 3]),
                             (("greatest", "x", "y", "z"), [3, -3, 3]), (("upto", "x", 9), [2, -3, 3]), (("upto", "x", 1), None),
                             (("from", "y", -9), [2, -3, 3]), (("from", "y", 5), None), (("below", "x", "y", 5), [2, -3, 3]),
                             (("below", "x", "z", 1), None), (("below", "x", "y", -2), [2, -3, 3]),
                             (("equal", "x", "y", 5), [2, -3, 3]), (("equal", "x", "y", -3), [2, -3, 3]),
                             (("equal", "x", "y", 13), [2, -3, 3]), (("equal", "x", "y", 6), None)):
            program = one_step(deed, ((2, 2), (-3, -3), (3, 3)))
            run = ([2, -3, 3], [(0, None)])
            self.assertIs(is_wrapped_run(program, 3, run), behind is not None, deed)
            if is_run(program, run):
                self.alike(wrapped_states(program, 3, run), [(0, [2, -3, 3])] + ([(1, behind)] if behind else []))
        program = one_step(("input", "y", (-9, 12)))
        for number, behind in ((-9, -1), (12, -4), (3, 3), (4, -4)):
            self.alike(wrapped_states(program, 3, ([0, 0, 0], [(0, number)])), [(0, [0, 0, 0]), (1, [0, behind, 0])])
            self.alike(first_unlike(program, 3, ([0, 0, 0], [(0, number)])), None if behind == number else 1)
        self.assertIs(is_wrapped_run(program, 3, ([0, 0, 0], [(0, 13)])), False)

    def test_the_numbers_begun_with(self):
        program = (["x"], 1, [(0, 9)], [(0, 0, ("upto", "x", 3)), (0, 0, ("from", "x", 4))])
        self.alike(wrapped_states(program, 3, ([9], [(1, None)])), [(0, [1])])
        self.alike(first_unlike(program, 3, ([9], [])), 0)
        self.alike(first_unlike(program, 3, ([3], [])), None)
        self.assertIs(is_wrapped_run(program, 3, ([9], [(0, None)])), True)
        self.assertIs(is_wrapped_run(program, 3, ([9], [(1, None)])), False)
        self.assertIs(is_wrapped_run(program, 3, ([1], [])), True)
        self.assertIs(is_wrapped_run(program, 3, ([-7], [])), False)
        self.assertIs(is_run(program, ([9], [(0, None)])), False)

    def test_first_unlike(self):
        run = ([1], [(0, None), (1, None), (0, None), (1, None), (2, None)])
        self.alike(first_unlike(CLIMB, 3, run), None)
        self.alike(first_unlike(CLIMB, 2, run), 2)
        self.alike(first_unlike(CLIMB, 1, run), 0)
        # Behind a move that can't go so the states lack.
        lacking = (["x"], 2, [(0, 0)], [(0, 0, ("input", "x", (4, 4))), (0, 1, ("from", "x", 4))])
        told = ([0], [(0, 4), (1, None)])
        self.alike(wrapped_states(lacking, 3, told), [(0, [0]), (0, [-4])])
        self.alike(first_unlike(lacking, 3, told), 1)
        shut = (["x", "y"], 2, [(0, 0), (3, 3)], [(0, 1, ("below", "x", "y", 1)), (1, 1, ("go",))])
        told = ([0, 3], [(0, None), (1, None)])
        self.alike(wrapped_states(shut, 3, told), [(0, [0, 3])])
        self.alike(first_unlike(shut, 3, told), 1)
        self.assertIsNone(first_unlike(shut, 4, told))

    def test_what_is_no_run(self):
        for run in (([2], []), ([0], [(1, None)]), ([0], ()), [[0], []], None, ([0],), ([True], []), ([0], [(0, 0)]), ([0], [None])):
            self.refused(errors.InvalidRun, run, wrapped_states, CLIMB, 3, run)
            self.refused(errors.InvalidRun, run, first_unlike, CLIMB, 3, run)
            self.assertIs(is_wrapped_run(CLIMB, 3, run), False)

    def test_against_the_words(self):
        chance = dice(123)
        unlike = 0
        for _ in range(600):
            program = any_program(chance, names=2, places=2, steps=6)
            width = chance.choice([1, 2, 2, 3])
            numbers = [chance.randint(*span) for span in program[2]]
            for other in (None, width):
                moves = any_moves(chance, program, other, numbers)
                states = [(0, [wrapped_plainly(width, number) for number in numbers])]
                for move in moves:
                    behind = step_plainly(program, width, states[-1], move)
                    if behind is None:
                        break
                    states.append(behind)
                run = (numbers, moves)
                self.assertIs(is_wrapped_run(program, width, run), len(states) == len(moves) + 1)
                if is_run(program, run):
                    self.alike(wrapped_states(program, width, run), states)
                    told = [at for at, state in enumerate(states_of(program, run)) if states[at:at + 1] != [state]]
                    self.alike(first_unlike(program, width, run), told[0] if told else None)
                    unlike += bool(told)
        self.assertGreater(unlike, 100)

    def test_where_nothing_wants_a_check(self):
        chance = dice(124)
        checked = 0
        while checked < 150:
            program = any_program(chance, names=2, places=2, steps=5)
            width = chance.choice([2, 3, 4])
            if not start_fits(program, width) or wanting(program, width):
                continue
            checked += 1
            numbers = [chance.randint(*span) for span in program[2]]
            for other in (None, width):
                run = (numbers, any_moves(chance, program, other, numbers))
                self.assertIs(is_wrapped_run(program, width, run), is_run(program, run))
                if is_run(program, run):
                    self.assertIsNone(first_unlike(program, width, run))
