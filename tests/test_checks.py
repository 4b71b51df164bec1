"""[51] to [55] Checks, dead steps, idle tests and lists."""

import itertools
import time

from stillranges import errors
from stillranges.checks import (
    checked, checked_at, dead_steps, idle_checks, idle_tests, is_enough, least_enough, outside, trimmed)
from stillranges.kept import can_hold
from stillranges.kinds import is_program, is_test
from stillranges.least import least_table
from stillranges.running import all_reached, can_go, state_behind
from stillranges.widths import fits, start_fits, sum_range, wanting
from tests.helpers import CLIMB, FAR, FULL, LOOP, Case, any_program, any_span, dice, moves_from, numbers_held
from tests.test_least import any_great

SUMS = ("set", "add", "turn", "input", "below", "equal")


def with_sum(program):
    return [step for step, (_, _, deed) in enumerate(program[3]) if deed[0] in SUMS]


def some_programs(seed, many, steps=5, endless=0.1):
    chance = dice(seed)
    for _ in range(many):
        yield any_program(chance, names=2, places=3, steps=steps, endless=chance.choice([0, 0, endless])), chance


def sum_of(program, state, move):
    """The sum that a step works out at a state, None if it has none."""
    step, given = move
    _, _, deed = program[3][step]
    now = dict(zip(program[0], state[1]))
    if deed[0] == "set":
        return deed[2]
    if deed[0] == "input":
        return given
    if deed[0] in ("add", "below", "equal"):
        return now[deed[2]] + deed[3]
    return deed[3] - now[deed[2]] if deed[0] == "turn" else None


def reached_where_sums_fit(program, width):
    """The states of all runs in which all sums fit."""
    found = {(0, tuple(numbers)) for numbers in numbers_held(program[2])}
    waiting = list(found)
    while waiting:
        place, numbers = waiting.pop()
        state = (place, list(numbers))
        for move in moves_from(program, state):
            told = sum_of(program, state, move)
            if told is None or fits(width, told):
                place_behind, behind = state_behind(program, state, move)
                if (place_behind, tuple(behind)) not in found:
                    found.add((place_behind, tuple(behind)))
                    waiting.append((place_behind, tuple(behind)))
    return sorted(found)


class Checked(Case):
    def test_each_deed(self):
        """At 4 bits, from -8 to 7."""
        cases = {
            ("add", "x", "y", 3): ("y", -11, 4), ("add", "x", "x", -3): ("x", -5, 10), ("turn", "x", "y", 3): ("y", -4, 11),
            ("turn", "y", "y", -3): ("y", -10, 5), ("below", "x", "y", 3): ("y", -11, 4), ("below", "y", "x", 0): ("x", -8, 7),
            ("equal", "x", "y", FAR): ("y", -8 - FAR, 7 - FAR), ("equal", "y", "x", -1): ("x", -7, 8)}
        for deed, (name, low, high) in cases.items():
            program = (["x", "y"], 2, [(0, 1), (None, 5)], [(1, 0, ("go",)), (0, 1, deed), (1, 1, ("upto", "x", 3))])
            expected = (["x", "y"], 4, [(0, 1), (None, 5)], [
                (1, 0, ("go",)), (0, 2, ("from", name, low)), (2, 3, ("upto", name, high)), (3, 1, deed),
                (1, 1, ("upto", "x", 3))])
            for steps in ([1], [0, 1], [1, 2], [0, 1, 2]):
                self.alike(checked_at(program, 4, steps), expected)
            self.alike(checked(program, 4), expected)
            for steps in ([], [0], [2], [0, 2]):
                self.alike(checked_at(program, 4, steps), program)
        for deed in (("set", "x", 99), ("input", "x", (-3, None))):
            program = (["x", "y"], 2, [(0, 1), (None, 5)], [(1, 0, deed)])
            self.alike(checked_at(program, 4, [0]), (["x", "y"], 4, [(0, 1), (None, 5)], [
                (1, 2, deed), (2, 3, ("from", "x", -8)), (3, 0, ("upto", "x", 7))]))
        for deed in (("go",), ("least", "x", "y", "x"), ("greatest", "x", "y", "x"), ("upto", "x", 99), ("from", "y", 99)):
            program = (["x", "y"], 1, [(0, 1), (None, 5)], [(0, 0, deed)])
            self.alike(checked_at(program, 4, [0]), program)
            self.alike(checked(program, 4), program)

    def test_new_places_in_the_order_of_the_steps(self):
        steps = [(0, 1, ("set", "x", 1)), (1, 0, ("go",)), (1, 1, ("add", "x", "x", 1)), (0, 0, ("turn", "x", "x", 0))]
        program = (["x"], 2, [(0, 0)], steps)
        self.alike(checked(program, 1), (["x"], 8, [(0, 0)], [
            (0, 2, ("set", "x", 1)), (2, 3, ("from", "x", -1)), (3, 1, ("upto", "x", 0)), (1, 0, ("go",)),
            (1, 4, ("from", "x", -2)), (4, 5, ("upto", "x", -1)), (5, 1, ("add", "x", "x", 1)),
            (0, 6, ("from", "x", 0)), (6, 7, ("upto", "x", 1)), (7, 0, ("turn", "x", "x", 0))]))
        self.alike(checked_at(program, 1, [1, 3]), (["x"], 4, [(0, 0)], steps[:3] + [
            (0, 2, ("from", "x", 0)), (2, 3, ("upto", "x", 1)), (3, 0, ("turn", "x", "x", 0))]))
        wide = checked_at(program, 200, [2])
        self.alike(wide[3][2:4], [(1, 2, ("from", "x", -(2 ** 199) - 1)), (2, 3, ("upto", "x", 2 ** 199 - 2))])

    def test_lists_of_steps(self):
        for steps in ([1, 0], [0, 0], (0, 1), [3], [-1], [True], [None], None, {}, ["0"], [[0]], 1):
            self.refused(errors.InvalidStep, steps, checked_at, CLIMB, 2, steps)
            self.refused(errors.InvalidStep, steps, is_enough, CLIMB, 2, steps)
            self.refused(errors.InvalidWidth, 0, is_enough, CLIMB, 0, steps)
        for width in (0, True, None, -1):
            for function in (checked, idle_checks, least_enough):
                self.refused(errors.InvalidWidth, width, function, CLIMB, width)

    def test_runs_are_those_in_which_all_sums_fit(self):
        compared = 0
        for program, chance in some_programs(131, 250, steps=4, endless=0):
            width = chance.choice([1, 2, 3])
            new = checked(program, width)
            self.assertIs(is_program(new), True)
            try:
                reached = all_reached(new)
            except errors.TooMany:
                continue
            there = [(place, tuple(numbers)) for place, numbers in reached if place < program[1]]
            self.alike(there, reached_where_sums_fit(program, width))
            compared += 1
        self.assertGreater(compared, 200)

    def test_its_ranges_fit_if_the_start_does(self):
        for program, chance in some_programs(132, 300):
            width = chance.choice([1, 2, 3, 8])
            if start_fits(program, width):
                for row in least_table(checked(program, width))[:program[1]]:
                    for low, high in row or []:
                        self.assertTrue(fits(width, low) and fits(width, high))


class Idle(Case):
    def test_against_what_the_tests_cut(self):
        some = 0
        for program, chance in some_programs(133, 400):
            width = chance.choice([1, 2, 3, 4])
            new = checked(program, width)
            least = least_table(new)
            expected, at = [], 0
            for step, (_, _, deed) in enumerate(program[3]):
                if deed[0] not in SUMS:
                    at += 1
                    continue
                tests = [told for told in new[3][at:at + 3] if told[2][0] in ("from", "upto") and program[1] <= max(told[:2])]
                tests = tests[:2] if deed[0] not in ("set", "input") else tests[-2:]
                at += 3
                cut = False
                for source, _, (word, name, number) in tests:
                    if least[source] is not None:
                        low, high = least[source][program[0].index(name)]
                        end = low if word == "from" else high
                        cut = cut or end is None or (end < number if word == "from" else end > number)
                if not cut:
                    expected.append(step)
            self.alike(idle_checks(program, width), expected)
            some += 0 < len(expected) < len(with_sum(program))
            for step in with_sum(program):
                if step not in wanting(program, width):
                    self.assertIn(step, expected)
            others = [step for step in with_sum(program) if step not in expected]
            self.alike(least_table(checked_at(program, width, others))[:program[1]], least[:program[1]])
        self.assertGreater(some, 100)

    def test_of_the_climb(self):
        self.alike([idle_checks(CLIMB, width) for width in (1, 2, 3, 200)], [[], [], [1], [1]])
        # The check of the first step leaves nothing for that of the second one to cut.
        chain = (["x"], 3, [(0, 0)], [(0, 1, ("input", "x", (0, 9))), (1, 2, ("add", "x", "x", -1)), (2, 2, ("go",))])
        self.alike(wanting(chain, 3), [0, 1])
        self.alike(idle_checks(chain, 3), [1])
        nowhere = (["x"], 3, [(0, 0)], [(1, 2, ("set", "x", 99))])
        self.alike(idle_checks(nowhere, 3), [0])


class Enough(Case):
    def test_the_shortest_list_against_all_lists(self):
        nones, lengths = 0, []
        for program, chance in some_programs(134, 200, steps=4):
            width = chance.choice([1, 2, 3])
            told = least_enough(program, width)
            steps = with_sum(program)
            self.assertEqual(told is None, not start_fits(program, width))
            enough = [list(some) for many in range(len(steps) + 1) for some in itertools.combinations(steps, many)
                      if is_enough(program, width, list(some))]
            if told is None:
                self.alike(enough, [])
                nones += 1
                continue
            self.alike(told, enough[0])
            self.alike(told, [step for step in steps if step not in idle_checks(program, width)])
            for some in enough:
                self.assertLessEqual(set(told), set(some))
            # With more steps in it a list that is enough stays so.
            for many in range(len(steps) + 1):
                for some in itertools.combinations(steps, many):
                    self.assertIs(is_enough(program, width, list(some)), set(told) <= set(some))
            lengths.append(len(told))
        self.assertTrue(nones > 20 and {0, 1, 2} <= set(lengths))

    def test_against_the_words(self):
        for program, chance in some_programs(135, 200):
            width = chance.choice([1, 2, 3])
            steps = sorted(chance.sample(range(5), chance.randint(0, 5)))
            new = checked_at(program, width, steps)
            # What stands for the step with a number in the new program.
            numbers = [number for number, step in enumerate(new[3]) if max(step[:2]) < program[1]]
            others = [step for step in range(5) if step not in steps or step not in with_sum(program)]
            self.assertEqual(len(numbers), len(others))
            wants = [step for number, step in zip(numbers, others) if number in wanting(new, width)]
            self.assertIs(is_enough(program, width, steps), start_fits(program, width) and wants == [])

    def test_the_start(self):
        still = (["x"], 1, [(0, 9)], [(0, 0, ("go",))])
        self.alike([least_enough(still, width) for width in (1, 4, 5)], [None, None, []])
        self.alike([is_enough(still, width, [0]) for width in (1, 4, 5)], [False, False, True])
        self.alike(least_enough((["x"], 1, [(0, None)], []), 200), None)
        self.alike([least_enough(CLIMB, width) for width in (1, 2, 3)], [None, [1], []])


class DeadAndIdle(Case):
    def test_against_all_numbers(self):
        dead_ones = idle_ones = 0
        for program, _ in some_programs(136, 400, steps=6, endless=0):
            least = least_table(program)
            if any(None in span for row in least for span in row or []):
                continue
            dead, idle = [], []
            for step, (source, target, deed) in enumerate(program[3]):
                if least[source] is None:
                    dead.append(step)
                elif is_test(program, step):
                    here = (program[0], program[1], program[2], [(0, 0, deed)])
                    pass_it = [can_go(here, (0, numbers), (0, None)) for numbers in numbers_held(least[source])]
                    if not any(pass_it):
                        dead.append(step)
                    if all(pass_it):
                        idle.append(step)
            self.alike(dead_steps(program), dead)
            self.alike(idle_tests(program), idle)
            dead_ones += bool(dead)
            idle_ones += bool(idle)
        self.assertTrue(dead_ones > 50 and idle_ones > 50)

    def test_endless_ranges(self):
        program = (["x", "y"], 2, [(None, 3), (5, None)], [
            (0, 0, deed) for deed in (("upto", "x", 3), ("upto", "x", 2), ("from", "x", -FAR), ("upto", "y", FAR), ("from", "y", 5),
                                      ("below", "x", "y", -2), ("below", "x", "y", -3), ("below", "y", "x", 9),
                                      ("equal", "x", "y", -2), ("equal", "x", "y", -1))])
        self.alike(idle_tests(program), [0, 4, 5])
        self.alike(dead_steps(program), [9])
        # Ranges alone tell: y may be more than x or not, and is equal to it just where both hold one number.
        both = (["x", "y"], 1, [(3, 3), (4, 4)], [(0, 0, ("equal", "x", "y", -1)), (0, 0, ("equal", "x", "y", 0)), (
            0, 0, ("below", "y", "x", 0)), (0, 0, ("below", "y", "x", 1))])
        self.alike(idle_tests(both), [0, 3])
        self.alike(dead_steps(both), [1, 2])

    def test_trimmed(self):
        reached = 0
        for program, _ in some_programs(137, 300, steps=6):
            new = trimmed(program)
            dead, idle = dead_steps(program), idle_tests(program)
            expected = [(source, target, ("go",) if step in idle else deed)
                        for step, (source, target, deed) in enumerate(program[3]) if step not in dead]
            self.alike(new, program[:3] + (expected,))
            self.alike(least_table(new), least_table(program))
            try:
                states = all_reached(program)
            except errors.TooMany:
                self.too_many(all_reached, new)
                continue
            self.alike(all_reached(new), states)
            reached += 1
        self.assertGreater(reached, 50)
        self.alike(trimmed(LOOP), LOOP)
        self.alike(dead_steps(LOOP), [])
        self.alike(idle_tests(LOOP), [])
        itself = (["x"], 2, [(0, 0)], [(0, 1, ("from", "x", 5)), (1, 0, ("upto", "x", 9)), (0, 0, ("upto", "x", 0))])
        self.alike([dead_steps(itself), idle_tests(itself), trimmed(itself)], [[0, 1], [2], itself[:3] + ([(0, 0, ("go",))],)])

    def test_all_of_the_deeds(self):
        least = least_table(FULL)
        expected = [step for step, (source, _, deed) in enumerate(FULL[3]) if least[source] is None or not can_hold(
            FULL, deed, least[source])]
        self.alike(dead_steps(FULL), expected)


class Lists(Case):
    def test_uses(self):
        self.alike(outside(CLIMB, []), [])
        uses = [(0, "x", 3), (0, "x", 4), (1, "x", 2), (1, "x", 3), (2, "x", 4), (2, "x", 0), (1, "x", 0), (0, "x", FAR), (0, "x", 3)]
        self.alike(outside(CLIMB, uses), [0, 2, 5, 6, 8])
        program = (["x", "y"], 2, [(-1, 2), (0, None)], [])
        self.alike(outside(program, [(0, "x", 9), (0, "y", FAR), (1, "x", 0), (1, "y", 1), (0, "y", 0)]), [0, 1, 4])
        below = (["x", "y"], 1, [(None, -5), (None, None)], [])
        self.alike(outside(below, [(0, "x", 9), (0, "y", 9)]), [0, 1])

    def test_against_all_numbers(self):
        chance = dice(138)
        for _ in range(300):
            span = any_span(chance, -2, 4)
            length = chance.randint(0, 6)
            amiss = [number for number in range(span[0], span[1] + 1) if number not in range(length)]
            self.alike(outside((["x"], 1, [span], []), [(0, "x", length)]), [0] if amiss else [])

    def test_what_is_no_list_of_uses(self):
        for uses in (None, ((0, "x", 3),), [[0, "x", 3]], [(0, "x", -1)], [(3, "x", 3)], [(0, "y", 3)], [(0, "x", True)], [(0, "x")],
                     [(0, "x", 3, 0)], [(True, "x", 3)], [(0, "x", 3), None], {}, [()], [(0, None, 3)], [(0, "x", None)], "x"):
            self.refused(errors.InvalidWish, uses, outside, CLIMB, uses)

    def test_within_seconds_up_to_the_limits(self):
        chance = dice(139)
        names = ["a", "b", "c", "d", "e"]
        began = time.perf_counter()
        ring = (names, 12, [(0, 0)] * 5, [(at % 12, (at + 1) % 12, (chance.choice(["add", "turn", "below", "equal"]), *chance.sample(
            names, 2), chance.randint(-3, 3))) for at in range(30)])
        for program in (any_great(chance, 3), any_great(chance, FAR), ring):
            for width in (1, 8, 100, 200):
                idle = idle_checks(program, width)
                steps = [step for step in with_sum(program) if step not in idle]
                self.assertIs(is_enough(program, width, steps), start_fits(program, width))
                least_enough(program, width)
            self.alike(least_table(trimmed(program)), least_table(program))
            self.alike(outside(program, [(place, "a", 0) for place in range(12)]), [
                place for place, row in enumerate(least_table(program)) if row is not None])
            self.alike(sum_range(program, 0), sum_range(program, 0))
        self.assertLess(time.perf_counter() - began, 40)
