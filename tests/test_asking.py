"""[61] to [64] Wishes, and the widest test, input and beginning with which they hold."""

import time

from stillranges import errors
from stillranges.asking import (
    broken_at, guarded, widest_input, widest_start, widest_test, wish_holds, with_input, with_start)
from stillranges.kinds import bounds_of, end_at, is_program, steps_into
from stillranges.least import least_table, range_at
from stillranges.ranges import table_within
from stillranges.turned import mirrored, mirrored_table, moved, moved_table, scaled, scaled_table
from tests.helpers import ALL_DEEDS, CLIMB, FAR, FULL, LOOP, Case, any_program, any_span, copied, dice

ALL = (None, None)
RIDE = (["x"], 3, [(0, 5)], [(0, 1, ("go",)), (1, 2, ("input", "x", (-9, 20))), (2, 1, ("turn", "x", "x", 3)), (0, 2, ("go",))])
WISH = [[ALL], [(-17, 17)], [ALL]]
TESTS = [("upto", "x", 3), ("from", "z", -FAR), ("below", "x", "y", 0), ("equal", "z", "y", -2)]


def any_wish(chance, program):
    """A wish not far from the least table of the program, or of one with fewer steps."""
    steps = [step for step in program[3] if chance.random() < 0.7]
    table = least_table(program[:3] + (steps,))
    wish = []
    for row in table:
        if row is None:
            wish.append(chance.choice([None, [ALL] * len(program[0])]))
            continue
        spans = []
        for low, high in row:
            low = chance.choice([None, None, low, low if low is None else low - chance.randint(0, 3)])
            high = chance.choice([None, None, high, high if high is None else high + chance.randint(0, 3)])
            spans.append((low, high))
        wish.append(spans)
    return wish


def some_programs(seed, many, steps=6, endless=0.15):
    chance = dice(seed)
    for _ in range(many):
        program = any_program(chance, names=chance.randint(1, 2), places=3, steps=chance.randint(1, steps),
                              endless=chance.choice([0, endless]))
        yield program, any_wish(chance, program), chance


def is_met(program, wish):
    """Whether a wish holds, whatever places the program has beside those of the wish."""
    return table_within(program, least_table(program), wish + [[ALL] * len(program[0])] * (program[1] - len(wish)))


class Wishes(Case):
    def test_against_the_words(self):
        holding, broken = 0, 0
        for program, wish, _ in some_programs(221, 500):
            least = least_table(program)
            holds = table_within(program, least, wish)
            self.assertIs(wish_holds(program, wish), holds)
            expected = []
            for bound in bounds_of(program):
                if least[bound[0]] is None:
                    continue
                end = end_at(program, least, bound)
                wished = bound if wish[bound[0]] is None else end_at(program, wish, bound)
                if wished is bound or (wished is not None and (end is None or (
                        end > wished if bound[2] == "high" else end < wished))):
                    expected.append(bound)
            self.alike(broken_at(program, wish), expected)
            self.assertIs(holds, expected == [])
            holding += holds
            broken += len(expected) > 1
        self.assertTrue(holding > 150 and broken > 60, (holding, broken))

    def test_places_with_none(self):
        self.alike([wish_holds(LOOP, [None] * 3), broken_at(LOOP, [None] * 3)], [False, bounds_of(LOOP)])
        never = (["x"], 3, [(0, 0)], [(0, 1, ("from", "x", 1)), (2, 2, ("go",))])
        self.alike([wish_holds(never, [[(0, 0)], None, None]), broken_at(never, [[(0, 0)], None, None])], [True, []])
        self.alike(broken_at(never, [[(1, 1)], [(0, 0)], None]), [(0, "x", "low")])
        self.alike(broken_at(never, [None, [(0, 0)], None]), [(0, "x", "high"), (0, "x", "low")])
        self.alike(broken_at(LOOP, [[ALL], None, [ALL]]), [(1, "i", "high"), (1, "i", "low")])

    def test_what_is_no_wish(self):
        for wish in (None, [None] * 2, [None] * 4, (None,) * 3, [[(0, 0)] * 2, None, None], [[(1, 0)], None, None], [0] * 3, {}):
            for function, ahead, behind in ((wish_holds, (), ()), (broken_at, (), ()), (widest_test, (1, "x", "low"), ()),
                                            (widest_input, (1,), (0,)), (widest_start, ("x",), (0,)),
                                            (widest_input, (1,), (True,)), (widest_start, ("x",), ("",))):
                self.refused(errors.InvalidWish, wish, function, RIDE, *ahead, wish, *behind)


class Guarded(Case):
    def test_all_deeds_and_places(self):
        for place in (1, 2, 3):
            for deed in TESTS:
                new = guarded(FULL, place, deed)
                self.assertIs(is_program(new), True)
                expected = [(source, 4 if target == place else target, told) for source, target, told in FULL[3]]
                self.alike(new, (FULL[0], 5, FULL[2], expected + [(4, place, deed)]))
        self.alike(guarded(LOOP, 2, ("upto", "i", 5)), (["i"], 4, [(0, 0)], [
            (0, 1, ("upto", "i", 9)), (1, 0, ("add", "i", "i", 1)), (0, 3, ("from", "i", 10)), (3, 2, ("upto", "i", 5))]))
        itself = (["i"], 2, [(0, 0)], [(1, 1, ("go",))])
        self.alike(guarded(itself, 1, ("from", "i", 5))[3], [(1, 2, ("go",)), (2, 1, ("from", "i", 5))])

    def test_the_least_table_is_cut(self):
        for program, _, chance in some_programs(222, 200):
            place = chance.randint(1, 2)
            name = chance.choice(program[0])
            new = guarded(program, place, ("upto", name, 1))
            least = least_table(new)
            self.assertIs(table_within(program, least[:3], least_table(program)), True)
            self.assertTrue(least[place] is None or range_at(new, place, name)[1] <= 1)
            # A test that all pass changes nothing.
            came = range_at(program, place, name)
            if came is not None and came[1] is not None:
                self.alike(least_table(guarded(program, place, ("upto", name, FAR)))[:3], least_table(program))

    def test_the_place_0_and_deeds_that_are_no_tests(self):
        for place in (0, 4, -1, True, None, "1", [1]):
            self.refused(errors.InvalidPlace, place, guarded, FULL, place, ("upto", "x", 3))
            self.refused(errors.InvalidPlace, place, guarded, FULL, place, None)
            for more in (("x", "low", [None] * 4), ("w", "low", None), ("x", "mid", None)):
                self.refused(errors.InvalidPlace, place, widest_test, FULL, place, *more)
        for deed in ALL_DEEDS:
            if deed[0] not in ("upto", "from", "below", "equal"):
                self.refused(errors.InvalidDeed, deed, guarded, FULL, 1, deed)
        for deed in (None, ["upto", "x", 3], ("upto", "w", 3), ("below", "x", "x", 3), ("upto", "x", True), ("upto", "x"), ()):
            self.refused(errors.InvalidDeed, deed, guarded, FULL, 1, deed)


class WidestTest(Case):
    def holds_with(self, program, place, word, name, number, wish):
        return is_met(guarded(program, place, (word, name, number)), wish)

    def test_against_numbers_one_by_one(self):
        told = {"go": 0, "test": 0, "none": 0}
        for program, wish, chance in some_programs(223, 500):
            place, name = chance.randint(1, 2), chance.choice(program[0])
            for side, word in (("high", "upto"), ("low", "from")):
                numbers = list(range(-40, 41))
                holds = [self.holds_with(program, place, word, name, number, wish) for number in numbers[::8]]
                if side == "low":
                    holds = holds[::-1]
                # With each narrower test it holds, too.
                self.assertEqual(holds, sorted(holds, reverse=True))
                result = widest_test(program, place, name, side, wish)
                if wish_holds(program, wish):
                    self.alike(result, ("go",))
                    told["go"] += 1
                elif result is None:
                    self.assertFalse(any(holds))
                    told["none"] += 1
                else:
                    self.alike(result, (word, name, result[2]))
                    self.assertLess(abs(result[2]), 40)
                    wider = result[2] + 1 if side == "high" else result[2] - 1
                    self.assertTrue(self.holds_with(program, place, *result[:1], name, result[2], wish))
                    self.assertFalse(self.holds_with(program, place, word, name, wider, wish))
                    told["test"] += 1
        self.assertTrue(min(told.values()) > 60, told)

    def test_of_the_ride(self):
        self.alike(widest_test(RIDE, 2, "x", "high", [[ALL], [(-10, 17)], [ALL]]), ("upto", "x", 13))
        self.alike(widest_test(RIDE, 2, "x", "low", [[ALL], [(-17, 5)], [ALL]]), ("from", "x", -2))
        self.alike(widest_test(RIDE, 2, "x", "high", [[ALL], [(-17, 5)], [ALL]]), ("upto", "x", -10))
        self.alike(widest_test(RIDE, 1, "x", "high", [[ALL], None, [ALL]]), ("upto", "x", -3))
        self.alike(widest_test(RIDE, 1, "x", "low", [[ALL], None, [ALL]]), ("from", "x", 6))
        self.alike([widest_test(RIDE, 1, "x", side, [None, [ALL], [ALL]]) for side in ("high", "low")], [None, None])
        self.alike([widest_test(RIDE, 1, "x", side, [[(0, 4)], [ALL], [ALL]]) for side in ("high", "low")], [None, None])

    def test_endless_ends(self):
        # x comes in endless at both sides, so each test leaves something of it.
        into = (["x", "y"], 3, [(0, 0), (0, 0)], [(0, 1, ("input", "x", ALL)), (1, 2, ("add", "y", "x", FAR))])
        for wished, side, expected in (
                ((None, 0), "high", ("upto", "x", -FAR)), ((None, -FAR), "high", ("upto", "x", -2 * FAR)),
                ((0, None), "high", None), ((0, None), "low", ("from", "x", -FAR)), ((None, 0), "low", None),
                ((5, 5), "high", None), (ALL, "high", ("go",))):
            self.alike(widest_test(into, 1, "x", side, [[ALL] * 2, [ALL] * 2, [ALL, wished]]), expected)
        self.alike(widest_test(into, 1, "x", "high", [[ALL] * 2, [ALL] * 2, None]), None)
        self.alike(widest_test(into, 1, "y", "high", [[ALL] * 2, None, [ALL] * 2]), ("upto", "y", -1))
        self.alike(widest_test(into, 1, "y", "low", [[ALL] * 2, None, [ALL] * 2]), ("from", "y", 1))
        # What climbs for ever is stopped by the test in front of a place of its ring.
        climb = (["x"], 2, [(0, 0)], [(0, 1, ("go",)), (1, 0, ("add", "x", "x", 1))])
        for high in (0, 1, 7, FAR):
            self.alike(widest_test(climb, 1, "x", "high", [[(0, high)], [ALL]]), ("upto", "x", high - 1))
        self.alike(widest_test(climb, 1, "x", "low", [[(0, 7)], [ALL]]), ("from", "x", 1))

    def test_it_is_the_test_that_is_sought_whatever_comes_to_the_new_place(self):
        still = (["x"], 2, [(0, 9)], [(0, 1, ("from", "x", 3))])
        self.alike(widest_test(still, 1, "x", "low", [[ALL], [(7, 9)]]), ("from", "x", 7))
        self.alike(widest_test(still, 1, "x", "high", [[ALL], [(0, 2)]]), ("upto", "x", 2))
        self.alike(widest_test(still, 1, "x", "high", [[ALL], None]), ("upto", "x", 2))
        never = (["x"], 2, [(0, 9)], [(0, 1, ("from", "x", 30))])
        self.alike(widest_test(never, 1, "x", "high", [[ALL], None]), ("go",))

    def test_wrong_arguments(self):
        for name in ("y", "", None, 1, ["x"]):
            self.refused(errors.InvalidName, name, widest_test, RIDE, 1, name, "low", WISH)
            self.refused(errors.InvalidName, name, widest_test, RIDE, 1, name, None, None)
        for side in ("mid", "High", None, 1, ["low"], ("low",), True):
            self.refused(errors.InvalidBound, side, widest_test, RIDE, 1, "x", side, WISH)
            self.refused(errors.InvalidBound, side, widest_test, RIDE, 1, "x", side, None)

    def test_mirrored_moved_and_scaled(self):
        compared = 0
        for program, wish, chance in some_programs(224, 200):
            place, name = chance.randint(1, 2), chance.choice(program[0])
            told = widest_test(program, place, name, "high", wish)
            turned = widest_test(mirrored(program), place, name, "low", mirrored_table(program, wish))
            self.alike(turned, told if told in (None, ("go",)) else ("from", name, -told[2]))
            up = widest_test(moved(program, 10 ** 28), place, name, "high", moved_table(program, wish, 10 ** 28))
            self.alike(up, told if told in (None, ("go",)) else ("upto", name, told[2] + 10 ** 28))
            big = scaled(program, 10 ** 28)
            far = widest_test(big, place, name, "high", scaled_table(program, wish, 10 ** 28))
            if told in (None, ("go",)):
                self.alike(far, told)
            else:
                self.assertTrue(told[2] * 10 ** 28 <= far[2] < (told[2] + 1) * 10 ** 28)
                compared += 1
        self.assertGreater(compared, 10)


class Ranges(Case):
    def test_with_input_and_with_start(self):
        self.alike(with_input(RIDE, 1, (None, 4)), RIDE[:3] + (RIDE[3][:1] + [(1, 2, ("input", "x", (None, 4)))] + RIDE[3][2:],))
        self.alike(with_input(FULL, 7, (5, None))[3][7], (1, 3, ("input", "z", (5, None))))
        self.alike(with_start(FULL, "y", (None, FAR)), (FULL[0], 4, [(0, 1), (None, FAR), (1, 1)], FULL[3]))
        self.alike(with_start(RIDE, "x", (0, 5)), RIDE)
        for step in (0, 2, 3, 4, -1, True, None, "1", [1]):
            self.refused(errors.InvalidStep, step, with_input, RIDE, step, (0, 1))
            self.refused(errors.InvalidStep, step, with_input, RIDE, step, None)
            self.refused(errors.InvalidStep, step, widest_input, RIDE, step, WISH, 0)
            self.refused(errors.InvalidStep, step, widest_input, RIDE, step, None, None)
        for span in ((2, 1), None, [0, 1], (True, 1), (0,), 3):
            self.refused(errors.InvalidRange, span, with_input, RIDE, 1, span)
            self.refused(errors.InvalidRange, span, with_start, RIDE, "x", span)
        for name in ("y", "", None, 1, ["x"]):
            self.refused(errors.InvalidName, name, with_start, RIDE, name, (0, 1))
            self.refused(errors.InvalidName, name, with_start, RIDE, name, None)
            self.refused(errors.InvalidName, name, widest_start, RIDE, name, None, "")
        for low in (True, "", "0", (0,), [0], 0.5, (0, 1)):
            self.refused(errors.InvalidNumber, low, widest_input, RIDE, 1, WISH, low)
            self.refused(errors.InvalidNumber, low, widest_start, RIDE, "x", WISH, low)

    def against(self, made, widest, wish, low, told):
        """The widest range is held against all small ones with this low end."""
        result = widest(wish, low)
        numbers = list(range(-30 if low is None else low, 31))
        if result is None:
            self.assertFalse(any(is_met(made((low, high)), wish) for high in numbers[:1] + numbers[1::9]))
            told["none"] += 1
        elif result == (low, None):
            self.assertTrue(is_met(made((low, None)), wish))
            told["endless"] += 1
        else:
            self.alike(result, (low, result[1]))
            self.assertTrue(abs(result[1]) < 30)
            self.assertTrue(is_met(made(result), wish))
            self.assertFalse(is_met(made((low, result[1] + 1)), wish))
            self.assertFalse(is_met(made((low, None)), wish))
            if low is None or low < result[1]:
                self.assertTrue(is_met(made((low if low is None else low + 1, result[1])), wish))
                self.assertTrue(is_met(made((low, result[1] - 1)), wish))
            told["number"] += 1
        return result

    def test_inputs_against_ranges_one_by_one(self):
        told = {"none": 0, "endless": 0, "number": 0}
        for program, wish, chance in some_programs(225, 250):
            step = len(program[3])
            source, target = chance.randrange(3), chance.randrange(3)
            program = program[:3] + (program[3] + [(source, target, ("input", chance.choice(program[0]), any_span(chance)))],)
            highs = []
            for low in [None, *range(-3, 4)]:
                result = self.against(lambda span: with_input(program, step, span),
                                      lambda wish, low: widest_input(program, step, wish, low), wish, low, told)
                highs.append((result is not None, result and result[1] is None, result and result[1] or 0))
                # A stair: with a greater low end that the range still holds the high end is no less.
                if low is not None and low > -3 and result is not None and before is not None and (
                        before[1] is None or before[1] >= low):
                    self.assertTrue(result[1] is None or (before[1] is not None and result[1] >= before[1]))
                before = result
        self.assertTrue(min(told.values()) > 100, told)

    def test_beginnings_against_ranges_one_by_one(self):
        told = {"none": 0, "endless": 0, "number": 0}
        for program, wish, chance in some_programs(226, 250):
            name = chance.choice(program[0])
            if chance.random() < 0.7 and wish[0] is not None:
                wish = [[ALL] * len(program[0])] + wish[1:]
            for low in [None, *range(-2, 3)]:
                self.against(lambda span: with_start(program, name, span),
                             lambda wish, low: widest_start(program, name, wish, low), wish, low, told)
        self.assertTrue(min(told.values()) > 100, told)

    def test_of_the_ride(self):
        self.alike([widest_input(RIDE, 1, WISH, low) for low in (-14, -13, 0, 20, 21, -15, None)],
                   [(-14, 20), (-13, 20), (0, 20), (20, 20), None, None, None])
        self.alike([widest_input(RIDE, 1, [[ALL], [(None, 17)], [ALL]], low) for low in (-14, -15, None, FAR)],
                   [(-14, None), None, None, (FAR, None)])
        self.alike([widest_input(RIDE, 1, [[ALL], [(-17, None)], [ALL]], low) for low in (-14, -FAR, None, 20, 21)],
                   [(-14, 20), (-FAR, 20), (None, 20), (20, 20), None])
        self.alike([widest_start(RIDE, "x", WISH, low) for low in (0, -14, -15, 17, 18, None)],
                   [(0, 17), (-14, 17), None, (17, 17), None, None])
        self.alike(widest_start(RIDE, "x", [[(None, 4)], [ALL], [ALL]], None), (None, 4))
        self.alike([widest_start(RIDE, "x", [None, [ALL], [ALL]], 0), widest_start(RIDE, "x", [[ALL]] * 3, None)], [None, ALL])

    def test_an_input_that_is_never_come_to(self):
        never = (["x"], 2, [(0, 0)], [(1, 0, ("input", "x", (3, 4))), (0, 1, ("from", "x", 1))])
        for low in (None, 0, -FAR, FAR):
            self.alike(widest_input(never, 0, [[(0, 0)], None], low), (low, None))
            self.alike(widest_input(never, 0, [[(1, 1)], None], low), None)

    def test_numbers_of_30_figures(self):
        far = (["x", "y"], 3, [(0, 0), (-FAR, FAR)], [(0, 1, ("input", "x", (0, 0))), (1, 2, ("add", "y", "x", FAR)),
                                                     (2, 2, ("turn", "x", "y", -FAR))])
        free = [[ALL] * 2] * 2
        self.alike(widest_input(far, 0, free + [[ALL, (None, 3 * FAR)]], -FAR), (-FAR, 2 * FAR))
        self.alike(widest_input(far, 0, free + [[ALL, (None, 3 * FAR)]], None), (None, 2 * FAR))
        self.alike(widest_input(far, 0, free + [[(-4 * FAR, None), ALL]], -7), (-7, 2 * FAR))
        self.alike(widest_input(far, 0, free + [[(None, 1), ALL]], -2 * FAR - 1), (-2 * FAR - 1, 1))
        self.alike(widest_input(far, 0, free + [[(None, 1), ALL]], -2 * FAR - 2), None)
        self.alike(widest_start(far, "y", [[ALL, ALL]] * 2 + [[(None, 0), ALL]], -5 * FAR), (-5 * FAR, None))

    def test_within_seconds_up_to_the_limits(self):
        began = time.perf_counter()
        chance = dice(227)
        for top in (3, FAR):
            for _ in range(6):
                program = any_program(chance, names=3, places=6, steps=11, endless=0.1)
                program = scaled(program, max(1, top // 10))
                program = program[:3] + (program[3] + [(0, 1, ("input", "a", (0, 0)))],)
                wish = any_wish(chance, program)
                before = copied((program, wish))
                for name in program[0]:
                    for side in ("high", "low"):
                        widest_test(program, 1, name, side, wish)
                    widest_start(program, name, wish, None)
                widest_input(program, 11, wish, -top)
                self.alike((program, wish), before)
        self.assertLess(time.perf_counter() - began, 40)
        self.alike(widest_test(CLIMB, 1, "x", "high", [[(0, 2)], [ALL], None]), ("upto", "x", 1))
