"""[68] and [69] Needless steps, and lots that keep the table."""

import time

from stillranges import errors
from stillranges.checks import dead_steps
from stillranges.least import least_table
from stillranges.needless import all_kept_lots, is_kept_lot, is_needless, kept_lot, needless_steps, without_steps
from tests.helpers import FAR, FULL, LOOP, Case, any_deed, any_program, dice
from tests.test_blame import all_lists

TWICE = (["x"], 2, [(0, 0)], [(0, 1, ("set", "x", 3)), (0, 1, ("set", "x", 3)), (0, 1, ("set", "x", 1)),
                              (1, 0, ("upto", "x", 2)), (0, 1, ("go",))])


def some_programs(seed, many, most=6):
    chance = dice(seed)
    for _ in range(many):
        yield any_program(chance, names=chance.randint(1, 2), places=chance.randint(1, 3), steps=chance.randint(0, most),
                          endless=chance.choice([0, 0.2])), chance


def table_with(program, steps):
    return least_table(program[:3] + ([program[3][step] for step in steps],))


class Needless(Case):
    def test_without_steps(self):
        self.alike(without_steps(FULL, []), FULL)
        self.alike(without_steps(FULL, list(range(20))), FULL[:3] + ([],))
        self.alike(without_steps(FULL, [0, 5, 19]), FULL[:3] + (FULL[3][1:5] + FULL[3][6:19],))

    def test_against_the_least_tables(self):
        some, together = 0, 0
        for program, _ in some_programs(251, 200):
            steps = list(range(len(program[3])))
            least = least_table(program)
            alone = []
            for out in all_lists(len(steps)):
                left = [step for step in steps if step not in out]
                needless = table_with(program, left) == least
                self.assertIs(is_needless(program, out), needless)
                if len(out) == 1 and needless:
                    alone += out
            self.alike(needless_steps(program), alone)
            for step in dead_steps(program):
                self.assertIn(step, alone)
            some += 0 < len(alone) < len(steps)
            together += not is_needless(program, alone)
        self.assertTrue(some > 60 and together > 5, (some, together))

    def test_two_that_say_the_same(self):
        self.alike([needless_steps(TWICE), is_needless(TWICE, [0, 1]), is_needless(TWICE, [0, 2]), is_needless(TWICE, [])],
                   [[0, 1, 2], False, True, True])
        self.alike([needless_steps(LOOP), is_needless(LOOP, [0]), kept_lot(LOOP), all_kept_lots(LOOP)],
                   [[], False, [0, 1, 2], [[0, 1, 2]]])
        still = (["x"], 2, [(0, 9)], [])
        self.alike([needless_steps(still), is_needless(still, []), kept_lot(still), all_kept_lots(still), is_kept_lot(still, [])],
                   [[], True, [], [[]], True])
        idle = (["x"], 2, [(0, 9)], [(0, 0, ("upto", "x", 5)), (1, 0, ("set", "x", FAR)), (0, 0, ("input", "x", (2, 9)))])
        self.alike([needless_steps(idle), is_needless(idle, [0, 1, 2]), kept_lot(idle), all_kept_lots(idle)],
                   [[0, 1, 2], True, [], [[]]])

    def test_what_is_no_list_of_steps(self):
        for steps in (None, (0, 1), [1, 0], [0, 0], [3], [-1], [True], [None], ["0"], 1, {}, [[0]], [0, 2, 1]):
            self.refused(errors.InvalidStep, steps, without_steps, LOOP, steps)
            self.refused(errors.InvalidStep, steps, is_needless, LOOP, steps)
            self.assertIs(is_kept_lot(LOOP, steps), False)


class Lots(Case):
    def test_against_all_lists_of_steps(self):
        several, fewer = 0, 0
        for program, _ in some_programs(252, 250):
            steps = list(range(len(program[3])))
            least = least_table(program)
            keeping = {tuple(some): table_with(program, some) == least for some in all_lists(len(steps))}
            lots = [list(some) for some in keeping if keeping[some] and not any(
                keeping[tuple(step for step in some if step != left)] for left in some)]
            self.alike(all_kept_lots(program), sorted(lots))
            for some in keeping:
                self.assertIs(is_kept_lot(program, list(some)), list(some) in lots)
            left = steps
            for step in steps:
                if keeping[tuple(one for one in left if one != step)]:
                    left = [one for one in left if one != step]
            self.alike(kept_lot(program), left)
            self.assertIn(left, lots)
            # Common to all of them are just the steps that are not needless.
            common = [step for step in steps if all(step in lot for lot in lots)]
            self.alike(common, [step for step in steps if step not in needless_steps(program)])
            several += len(lots) > 1
            fewer += len(left) < len(steps)
        self.assertTrue(several > 10 and fewer > 100, (several, fewer))

    def test_of_two_that_say_the_same(self):
        self.alike([kept_lot(TWICE), all_kept_lots(TWICE)], [[1, 3, 4], [[0, 3, 4], [1, 3, 4]]])
        for value, expected in (([1, 3, 4], True), ([0, 3, 4], True), ([0, 1, 3, 4], False), ([3, 4], False), ([], False),
                                ([0, 1, 2, 3, 4], False), ((1, 3, 4), False), ([4, 3, 1], False), ([1, 3, 4, 5], False),
                                ([True, 3, 4], False), (None, False)):
            self.assertIs(is_kept_lot(TWICE, value), expected)
        five = (["x"], 2, [(0, 0)], [(0, 1, ("set", "x", 3))] * 5)
        self.alike([kept_lot(five), all_kept_lots(five)], [[4], [[0], [1], [2], [3], [4]]])

    def test_within_seconds_up_to_the_limits(self):
        began = time.perf_counter()
        names = ["a", "b", "c", "d", "e"]
        # Each end that is held up is held up by five of the ten steps.
        ten = (names, 12, [(0, 0)] * 5, [(0, 1, ("set", "a", FAR)), (0, 1, ("set", "a", -FAR))] * 5)
        self.assertEqual(len(all_kept_lots(ten)), 25)
        chance = dice(253)
        for _ in range(6):
            steps = [(at % 12, (at + 1) % 12, any_deed(chance, names, -FAR, FAR, 0.1)) for at in range(30)]
            program = (names, 12, [(0, 0)] * 5, steps)
            lot = kept_lot(program)
            self.assertIs(is_kept_lot(program, lot), True)
            self.assertIs(is_needless(program, [step for step in range(30) if step not in lot]), True)
            for lot in all_kept_lots(program[:3] + ([(0, 0, deed) for _, _, deed in steps[:10]],)):
                self.assertEqual(lot, sorted(set(lot)))
        self.assertLess(time.perf_counter() - began, 30)
