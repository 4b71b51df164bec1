"""[65] and [66] Blame and cures."""

import itertools
import time

from stillranges import errors
from stillranges.blame import all_blames, all_cures, blame_for, cure_for, is_blame, is_cure, with_only
from stillranges.kinds import bounds_of
from stillranges.least import least_table
from stillranges.papers import is_shown
from tests.helpers import FAR, FULL, LOOP, Case, any_deed, any_program, dice

RIDE = (["x"], 3, [(0, 5)], [(0, 1, ("go",)), (1, 2, ("input", "x", (-9, 20))), (2, 1, ("turn", "x", "x", 3)), (0, 2, ("go",))])
HIGH = (1, "x", "high")
CALLS = (blame_for, cure_for, all_blames, all_cures)


def all_lists(many):
    """All ascending lists of numbers below a number."""
    return [list(some) for size in range(many + 1) for some in itertools.combinations(range(many), size)]


def claims(seed, many, most=6):
    chance = dice(seed)
    for _ in range(many):
        program = any_program(chance, names=chance.randint(1, 2), places=chance.randint(1, 3), steps=chance.randint(0, most),
                              endless=chance.choice([0, 0.2]))
        yield program, chance.choice(bounds_of(program)), chance.randint(-3, 3), chance


class Only(Case):
    def test_with_only(self):
        self.alike(with_only(FULL, []), FULL[:3] + ([],))
        self.alike(with_only(FULL, list(range(20))), FULL)
        self.alike(with_only(FULL, [3, 4, 19]), FULL[:3] + ([FULL[3][3], FULL[3][4], FULL[3][19]],))

    def test_what_is_no_list_of_steps(self):
        for chosen in (None, (0, 1), [1, 0], [0, 0], [3], [-1], [True], [None], ["0"], 1, {}, [[0]], [0, 2, 1]):
            self.refused(errors.InvalidStep, chosen, with_only, LOOP, chosen)
            self.assertIs(is_blame(LOOP, (0, "i", "high"), 9, chosen), False)
            self.assertIs(is_cure(LOOP, (0, "i", "high"), 9, chosen), False)


class BlameAndCures(Case):
    def test_against_all_lists_of_steps(self):
        shown_ones, hopeless, several = 0, 0, 0
        for program, bound, number, _ in claims(231, 600):
            steps = list(range(len(program[3])))
            shown = {tuple(some): is_shown(with_only(program, some), bound, number) for some in all_lists(len(steps))}
            breaking = [list(some) for some in shown if not shown[some] and all(
                shown[tuple(step for step in some if step != left)] for left in some)]
            left_in = {some: tuple(step for step in steps if step not in some) for some in shown}
            healing = [list(some) for some in shown if shown[left_in[some]] and all(
                not shown[tuple(sorted(left_in[some] + (step,)))] for step in some)]
            self.alike(all_blames(program, bound, number), sorted(breaking))
            self.alike(all_cures(program, bound, number), sorted(healing))
            for some in shown:
                self.assertIs(is_blame(program, bound, number, list(some)), list(some) in breaking)
                self.assertIs(is_cure(program, bound, number, list(some)), list(some) in healing)
            blame, cure = blame_for(program, bound, number), cure_for(program, bound, number)
            self.assertTrue(blame in breaking if breaking else blame is None)
            self.assertTrue(cure in healing if healing else cure is None)
            self.assertIs(blame is None, is_shown(program, bound, number))
            self.assertIs(cure is None, not is_shown(with_only(program, []), bound, number))
            for one, other in itertools.product(breaking, healing):
                self.assertTrue(set(one) & set(other))
            # Whatever has a step in common with each blame heals, and whatever heals has one.
            for some in shown:
                self.assertIs(shown[left_in[some]], all(set(some) & set(one) for one in breaking))
                self.assertIs(not shown[some], all(set(some) & set(one) for one in healing))
            shown_ones += breaking == []
            hopeless += healing == []
            several += len(breaking) > 1 and len(healing) > 1
        self.assertTrue(shown_ones > 80 and hopeless > 40 and several > 8, (shown_ones, hopeless, several))

    def test_of_the_ride(self):
        self.alike([all_blames(RIDE, HIGH, number) for number in (12, 11, 5, 4)],
                   [[], [[0, 1, 2], [1, 2, 3]], [[0, 1, 2], [1, 2, 3]], [[0], [1, 2, 3]]])
        self.alike([all_cures(RIDE, HIGH, number) for number in (12, 11, 4)], [[[]], [[0, 3], [1], [2]], [[0, 1], [0, 2], [0, 3]]])
        self.assertIn(blame_for(RIDE, HIGH, 11), [[0, 1, 2], [1, 2, 3]])
        self.assertIn(cure_for(RIDE, HIGH, 11), [[0, 3], [1], [2]])

    def test_claims_that_no_step_changes(self):
        for bound, number in (((0, "x", "high"), 4), ((0, "x", "low"), 1)):
            self.alike([call(RIDE, bound, number) for call in CALLS], [[], None, [[]], []])
            self.assertIs(is_blame(RIDE, bound, number, []), True)
            self.assertIs(is_blame(RIDE, bound, number, [0]), False)
            self.assertIs(is_cure(RIDE, bound, number, []), False)
            self.assertIs(is_cure(RIDE, bound, number, [0, 1, 2, 3]), False)
        for bound, number in (((0, "x", "high"), 5), ((0, "x", "low"), 0), ((1, "x", "high"), 12), ((1, "x", "low"), -FAR)):
            self.alike([call(RIDE, bound, number) for call in CALLS], [None, [], [], [[]]])
            self.assertIs(is_blame(RIDE, bound, number, []), False)
            self.assertIs(is_cure(RIDE, bound, number, []), True)
            self.assertIs(is_cure(RIDE, bound, number, [0]), False)

    def test_places_to_which_nothing_comes(self):
        never = (["x"], 3, [(0, 0)], [(0, 1, ("from", "x", 1)), (1, 2, ("set", "x", 9)), (0, 0, ("go",))])
        for place in (1, 2):
            for side in ("high", "low"):
                self.alike([call(never, (place, "x", side), 0) for call in CALLS], [None, [], [], [[]]])
        some = never[:3] + (never[3] + [(0, 0, ("set", "x", 1))],)
        self.alike(all_blames(some, (2, "x", "high"), 8), [[0, 1, 3]])
        self.alike(all_cures(some, (2, "x", "high"), 8), [[0], [1], [3]])
        self.alike([call(some, (2, "x", "high"), 8) for call in (blame_for,)], [[0, 1, 3]])

    def test_equal_steps(self):
        twice = (["x"], 2, [(0, 0)], [(0, 1, ("set", "x", 3)), (0, 1, ("set", "x", 3)), (0, 1, ("set", "x", 3))])
        self.alike(all_blames(twice, HIGH, 2), [[0], [1], [2]])
        self.alike(all_cures(twice, HIGH, 2), [[0, 1, 2]])

    def test_endless_ends_and_great_numbers(self):
        climb = (["x"], 2, [(0, 0)], [(0, 1, ("go",)), (1, 0, ("add", "x", "x", 1)), (0, 1, ("set", "x", -FAR))])
        self.alike(all_blames(climb, HIGH, FAR), [[0, 1]])
        self.alike(all_cures(climb, HIGH, FAR), [[0], [1]])
        self.alike(all_blames(climb, (1, "x", "low"), -FAR + 1), [[2]])
        self.alike(all_blames(climb, (1, "x", "low"), -FAR), [])

    def test_more_than_8_steps(self):
        steps = [(0, 1, ("set", "x", number)) for number in range(9)]
        eight, nine = (["x"], 2, [(0, 0)], steps[:8]), (["x"], 2, [(0, 0)], steps)
        self.alike(all_blames(eight, HIGH, 3), [[4], [5], [6], [7]])
        self.alike(all_cures(eight, HIGH, 3), [[4, 5, 6, 7]])
        for function in (all_blames, all_cures):
            for program in (nine, FULL, nine[:3] + (steps + steps,)):
                with self.assertRaises(errors.TooMany) as caught:
                    function(program, (1, "x", "high"), 3)
                self.alike(caught.exception.value, len(program[3]))
            # All other errors come ahead.
            self.refused(errors.InvalidNumber, None, function, nine, HIGH, None)
            self.refused(errors.InvalidBound, (2, "x", "high"), function, nine, (2, "x", "high"), None)
        self.alike([blame_for(nine, HIGH, 3), cure_for(nine, HIGH, 3)], [[8], [4, 5, 6, 7, 8]])
        self.assertIs(is_cure(nine, HIGH, 3, [4, 5, 6, 7, 8]), True)

    def test_wrong_arguments(self):
        for function, more in ((blame_for, ()), (cure_for, ()), (all_blames, ()), (all_cures, ()), (is_blame, ([],)), (is_cure, ([],))):
            for number in (None, True, "1", [1], 0.5):
                self.refused(errors.InvalidNumber, number, function, RIDE, HIGH, number, *more)
            for bound in (None, (3, "x", "high"), (0, "y", "high"), (0, "x", "up"), [0, "x", "high"], (0, "x")):
                self.refused(errors.InvalidBound, bound, function, RIDE, bound, None, *more)

    def test_within_seconds_up_to_the_limits(self):
        chance = dice(232)
        began = time.perf_counter()
        for _ in range(10):
            names = ["a", "b", "c"]
            steps = [(at % 6, (at + 1) % 6, any_deed(chance, names, -FAR, FAR, 0.1)) for at in range(12)]
            program = (names, 6, [(0, 0)] * 3, steps)
            bound = (3, "a", "high")
            blame, cure = blame_for(program, bound, 0), cure_for(program, bound, 0)
            self.assertIs(blame is None or is_blame(program, bound, 0, blame), True)
            self.assertIs(cure is None or is_cure(program, bound, 0, cure), True)
            fewer = program[:3] + (steps[:8],)
            self.assertEqual(all_blames(fewer, bound, 0) == [], is_shown(fewer, bound, 0))
            all_cures(fewer, bound, 0)
            least_table(program)
        self.assertLess(time.perf_counter() - began, 30)
