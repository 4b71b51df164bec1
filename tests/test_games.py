"""[36] to [40] The game of two."""

import itertools
import time

from stillranges import errors
from stillranges.games import (
    at_most_of, best_plan, best_reply, is_best_plan, is_best_reply, is_reply, play, reply_of, sure_of, turns_for, worths,
    worths_within)
from stillranges.phases import are_kept_values, is_plan, options_of, phase_bounds, sides_of
from stillranges.plans import first_plan, rest_of, values_of
from stillranges.rings import is_sound
from tests.helpers import FAR, Case, dice
from tests.test_least import any_great
from tests.test_plans import some_phases

FIVE = (["x"], 2, [(0, 0)], [(0, 1, ("upto", "x", 4)), (1, 0, ("add", "x", "x", 1))])
CLIMB = [(1, 0), (None, 0), (0, 0), (0, 0)]
LOW = [(None, 0), (None, 0), (0, 0), (0, 0)]
FALL = [(1, 0), (1, 0), (0, 0), (0, 0)]
STOP = [[0, 0], [0, 0], [1], [0]]
ON = [[0, 0], [0, 0], [0], [0]]
HIGH, BEHIND = (0, "x", "high"), (1, "x", "high")
DOWN = (0, "x", "low")


def order(paid):
    """What is paid, in order: "nothing" is less than every number, None more."""
    if paid == "nothing":
        return (0, 0)
    return (2, 0) if paid is None else (1, paid)


def told_options(program, opened):
    """For each bound come to the list of the lists of the sides of its options."""
    return {bound: {option: sides_of(program, opened, bound, option) for option in options_of(program, opened, bound)}
            for bound in phase_bounds(program, opened)}


def all_ends(ways, bound, best):
    """The best of what is paid along all ways from a bound: ways are for each bound a list of sides.

    Where nothing has to be the same each time, a way that comes back can be gone again and again: to come back once tells.
    """
    paid = []

    def go_on(way, sums):
        for behind, addend in ways[way[-1]]:
            if behind is None:
                paid.append(None if addend is None else sums[-1] + addend)
            elif behind in way:
                round_sum = sums[-1] + addend - sums[way.index(behind)]
                paid.append(None if round_sum > 0 else "nothing")
            else:
                go_on(way + [behind], sums + [sums[-1] + addend])

    go_on([bound], [0])
    return best(paid, key=order)


def any_plan_of(chance, program, opened):
    return [chance.choice(options_of(program, opened, bound)) for bound in phase_bounds(program, opened)]


def any_reply_of(chance, program, opened):
    told = told_options(program, opened)
    return [[chance.randrange(len(sides)) for sides in options.values()] for options in told.values()]


class Plays(Case):
    def test_over(self):
        self.alike(play(FIVE, [0, 1], HIGH, CLIMB, STOP), ([HIGH, BEHIND], None, 5))
        self.alike(play(FIVE, [0, 1], BEHIND, CLIMB, STOP), ([BEHIND], None, 4))
        self.alike(play(FIVE, [0, 1], HIGH, LOW, ON), ([HIGH], None, 0))
        self.alike(play(FIVE, [0, 1], (1, "x", "low"), LOW, ON), ([(1, "x", "low"), DOWN], None, 0))
        endless = FIVE[:2] + ([(None, 0)],) + FIVE[3:]
        self.alike(play(endless, [0, 1], (1, "x", "low"), LOW, ON), ([(1, "x", "low"), DOWN], None, None))

    def test_back(self):
        self.alike(play(FIVE, [0, 1], HIGH, CLIMB, ON), ([HIGH, BEHIND], 0, None))
        self.alike(play(FIVE, [0, 1], BEHIND, CLIMB, ON), ([BEHIND, HIGH], 0, None))
        self.alike(play(FIVE, [0, 1], DOWN, FALL, ON), ([DOWN, (1, "x", "low")], 0, "nothing"))
        for number, paid in ((-FAR, "nothing"), (-1, "nothing"), (0, "nothing"), (1, None), (FAR, None)):
            up = (["x"], 3, [(0, 0)], [(0, 1, ("add", "x", "x", -7)), (1, 2, ("add", "x", "x", number + 3)),
                                       (2, 1, ("add", "x", "x", -3))])
            plan = [(None, 0)] * 2 + [(2, 0)] * 2 + [(1, 0)] * 2
            reply = [[0], [0], [0, 0], [0, 0], [0], [0]]
            self.alike(play(up, [0, 1, 2], BEHIND, plan, reply), ([BEHIND, (2, "x", "high")], 0, paid))
            # What is paid ahead of the bound come back to does not count.
            more = (["x"], 4, [(0, 0)], up[3] + [(1, 3, ("add", "x", "x", 5 * FAR))])
            told = play(more, [0, 1, 2, 3], (3, "x", "high"), plan + [(3, 0)] * 2, reply + [[0], [0]])
            self.alike(told, ([(3, "x", "high"), BEHIND, (2, "x", "high")], 1, paid))

    def test_replies_bent(self):
        for reply in (STOP, ON):
            self.assertIs(is_reply(FIVE, [0, 1], reply), True)
        for value in (STOP[:3], STOP + [[0]], tuple(STOP), [[0], [0, 0], [1], [0]], [[0, 0, 0], [0, 0], [1], [0]],
                      [[0, 0], [0, 0], [2], [0]], [[0, 1], [0, 0], [1], [0]], [[0, 0], [0, 0], [1], [1]], None, {}, [],
                      [[0, 0], [0, 0], [True], [0]], [[0, 0], [0, 0], [-1], [0]], [[0, 0], [0, 0], (1,), [0]],
                      [[0, 0], [0, 0], 1, 0], [[0, 0], [0, 0], [None], [0]], [[0, 0], [0, 0], [[1]], [0]], ON + ON):
            self.assertIs(is_reply(FIVE, [0, 1], value), False)
            self.refused(errors.InvalidPlan, value, play, FIVE, [0, 1], HIGH, CLIMB, value)
            self.refused(errors.InvalidPlan, value, at_most_of, FIVE, [0, 1], value)
            self.assertIs(is_best_reply(FIVE, [0, 1], value), False)
        self.assertIs(is_reply(FIVE, [], [[0], [0]]), True)
        self.assertIs(is_reply(FIVE, [], STOP), False)

    def test_plans_bent(self):
        for plan in (CLIMB[:3], CLIMB + CLIMB, tuple(CLIMB), [None] + CLIMB[1:], [(2, 0)] + CLIMB[1:], None, [(0, 0)] + CLIMB[1:],
                     [(True, 0)] + CLIMB[1:], [[1, 0]] + CLIMB[1:]):
            self.refused(errors.InvalidPlan, plan, play, FIVE, [0, 1], HIGH, plan, STOP)
            self.refused(errors.InvalidPlan, plan, play, FIVE, [0, 1], HIGH, plan, None)
            self.refused(errors.InvalidPlan, plan, sure_of, FIVE, [0, 1], plan)
            self.assertIs(is_best_plan(FIVE, [0, 1], plan), False)

    def test_against_the_words(self):
        kinds = []
        for program, opened, chance in some_phases(111, 300):
            plan, reply = any_plan_of(chance, program, opened), any_reply_of(chance, program, opened)
            told = told_options(program, opened)
            named = {}
            for bound, option, sides in zip(told, plan, reply):
                named[bound] = told[bound][option][sides[list(told[bound]).index(option)]]
            for bound in told:
                way, addends = [], []
                at = bound
                while at is not None and at not in way:
                    way.append(at)
                    at, addend = named[at]
                    addends.append(addend)
                back = None if at is None else way.index(at)
                if back is None:
                    paid = None if None in addends else sum(addends)
                else:
                    paid = None if sum(addends[back:]) > 0 else "nothing"
                self.alike(play(program, opened, bound, plan, reply), (way, back, paid))
                kinds.append((back is None, paid if paid in (None, "nothing") else "number"))
        self.assertEqual(len(set(kinds)), 4)


class Sure(Case):
    def test_of_five(self):
        self.alike(sure_of(FIVE, [0, 1], CLIMB), [5, 0, 4, 0])
        self.alike(sure_of(FIVE, [0, 1], LOW), [0, 0, 0, 0])
        self.alike(sure_of(FIVE, [0, 1], FALL), [5, "nothing", 4, "nothing"])
        self.alike(at_most_of(FIVE, [0, 1], STOP), [5, 0, 4, 0])
        self.alike(at_most_of(FIVE, [0, 1], ON), [None, 0, None, 0])

    def test_against_all_plays(self):
        seen = set()
        for program, opened, chance in some_phases(112, 400):
            plan, reply = any_plan_of(chance, program, opened), any_reply_of(chance, program, opened)
            told = told_options(program, opened)
            ways = {bound: told[bound][option] for bound, option in zip(told, plan)}
            sure = sure_of(program, opened, plan)
            self.alike(sure, [all_ends(ways, bound, min) for bound in told])
            seen |= {paid if paid in (None, "nothing") else "number" for paid in sure}
            ways = {bound: [sides[at] for sides, at in zip(options.values(), named)] for (bound, options), named in zip(
                told.items(), reply)}
            most = at_most_of(program, opened, reply)
            self.alike(most, [all_ends(ways, bound, max) for bound in told])
            self.assertIs(are_kept_values(program, opened, most), True)
            for one, other in zip(sure, most):
                self.assertLessEqual(order(one), order(other))
        self.assertEqual(seen, {None, "nothing", "number"})

    def test_of_sound_plans(self):
        for program, opened, chance in some_phases(113, 200):
            for plan in (first_plan(program, opened), any_plan_of(chance, program, opened)):
                if is_sound(program, opened, plan):
                    self.alike(sure_of(program, opened, plan), values_of(program, opened, plan))

    def test_nothing_is_not_what_merely_lies_behind(self):
        """From a bound to which a bad ring leads nothing is lost, from one that leads to the ring it is."""
        steps = [(0, 1, ("go",)), (1, 1, ("go",)), (1, 2, ("go",))]
        program = (["x"], 3, [(3, 3)], steps)
        plan = [(None, 0), (None, 0), (1, 0), (0, 0), (2, 0), (2, 0)]
        self.alike(sure_of(program, [0, 1, 2], plan), [3, -3, "nothing", -3, "nothing", -3])
        both = (["x", "y"], 2, [(3, 3), (4, 4)], [(0, 1, ("least", "x", "x", "y")), (0, 0, ("add", "x", "x", -1)), (0, 0, (
            "go",))])
        plan = [(1, 0), (None, 0), (None, 0), (None, 0), (0, 0), (0, 0), (0, 0), (0, 0)]
        told = sure_of(both, [0, 1], plan)
        self.alike(told, ["nothing", -3, 4, -4, "nothing", -3, 4, -4])


class Worths(Case):
    def test_best_plans_and_replies(self):
        for program, opened, _ in some_phases(114, 250):
            told = worths(program, opened)
            self.alike(told, rest_of(program, opened))
            plan, reply = best_plan(program, opened), best_reply(program, opened)
            self.alike(sure_of(program, opened, plan), told)
            self.alike(at_most_of(program, opened, reply), told)
            self.assertIs(is_best_plan(program, opened, plan), True)
            self.assertIs(is_best_reply(program, opened, reply), True)

    def test_against_all_plans_and_replies(self):
        checked = 0
        for program, opened, _ in some_phases(115, 400, steps=3):
            told = told_options(program, opened)
            plans = list(itertools.islice(itertools.product(*told.values()), 65))
            sides = [list(itertools.product(*[range(len(sides)) for sides in options.values()])) for options in told.values()]
            replies = list(itertools.islice(itertools.product(*sides), 65))
            if len(plans) > 64 or len(replies) > 64:
                continue
            checked += 1
            worth = worths(program, opened)
            sures = [sure_of(program, opened, list(plan)) for plan in plans]
            lefts = [at_most_of(program, opened, [list(named) for named in reply]) for reply in replies]
            self.alike(worth, [max(column, key=order) for column in zip(*sures)])
            self.alike(worth, [min(column, key=order) for column in zip(*lefts)])
            for plan, sure in zip(plans, sures):
                self.assertIs(is_best_plan(program, opened, list(plan)), sure == worth)
            for reply, left in zip(replies, lefts):
                self.assertIs(is_best_reply(program, opened, [list(named) for named in reply]), left == worth)
        self.assertGreater(checked, 100)

    def test_of_five(self):
        self.assertIs(is_best_plan(FIVE, [0, 1], CLIMB), True)
        self.assertIs(is_best_plan(FIVE, [0, 1], LOW), False)
        self.assertIs(is_best_plan(FIVE, [0, 1], FALL), False)
        self.assertIs(is_best_reply(FIVE, [0, 1], STOP), True)
        self.assertIs(is_best_reply(FIVE, [0, 1], ON), False)


class KeptValues(Case):
    def test_replies_of_kept_values(self):
        for program, opened, chance in some_phases(116, 250):
            told = told_options(program, opened)
            least = rest_of(program, opened)
            reply = any_reply_of(chance, program, opened)
            some = at_most_of(program, opened, reply)
            more = [None if value is None or chance.random() < 0.2 else value + 2 for value in least]
            for values in (least, some, more, [None] * len(least)):
                if not are_kept_values(program, opened, values):
                    self.refused(errors.InvalidTable, values, reply_of, program, opened, values)
                    continue
                reply = reply_of(program, opened, values)
                self.assertIs(is_reply(program, opened, reply), True)
                by = dict(zip(told, values))
                expected = []
                for bound, options in told.items():
                    expected.append([])
                    for sides in options.values():
                        worth = [addend if at is None else None if by[at] is None else by[at] + addend for at, addend in sides]
                        good = [by[bound] is None or (paid is not None and paid <= by[bound]) for paid in worth]
                        expected[-1].append(good.index(True))
                self.alike(reply, expected)
                for value, left in zip(values, at_most_of(program, opened, reply)):
                    self.assertLessEqual(order(left), order(value))

    def test_values_that_are_not_kept(self):
        self.alike(reply_of(FIVE, [0, 1], [None, 0, None, 0]), ON)
        self.alike(reply_of(FIVE, [0, 1], [5, 0, 4, 0]), STOP)
        for values in ([4, 0, 4, 0], [5, 0, 3, 0], [5, -1, 4, 0], [0] * 4, [5, 0, 4], (5, 0, 4, 0), [5, 0, 4, True], None,
                       ["nothing"] * 4, [5, 0, 4, 0, 0]):
            self.refused(errors.InvalidTable, values, reply_of, FIVE, [0, 1], values)


def sure_in_turns(told, bound, turns):
    """What Wider can be sure of, by trying all turns."""
    if turns == 0:
        return "nothing"
    best = []
    for sides in told[bound].values():
        worst = []
        for behind, addend in sides:
            paid = addend if behind is None else sure_in_turns(told, behind, turns - 1)
            worst.append(paid if behind is None or paid in (None, "nothing") else paid + addend)
        best.append(min(worst, key=order))
    return max(best, key=order)


class Turns(Case):
    def test_of_five(self):
        for turns, expected in ((0, ["nothing"] * 4), (1, [0, 0, "nothing", "nothing"]), (2, [0, 0, 0, 0]), (3, [1, 0, 0, 0]),
                                (10, [4, 0, 4, 0]), (11, [5, 0, 4, 0]), (2000, [5, 0, 4, 0])):
            self.alike(worths_within(FIVE, [0, 1], turns), expected)
        self.alike([turns_for(FIVE, [0, 1], bound) for bound in phase_bounds(FIVE, [0, 1])], [11, 1, 10, 2])
        self.alike(worths_within(FIVE, [], 1), [0, 0])

    def test_against_all_turns(self):
        for program, opened, _ in some_phases(117, 200, steps=4):
            told = told_options(program, opened)
            if sum(len(options) for options in told.values()) > 24:
                continue
            for turns in range(4):
                self.alike(worths_within(program, opened, turns), [sure_in_turns(told, bound, turns) for bound in told])

    def test_never_less_with_more_turns(self):
        sure = 0
        for program, opened, _ in some_phases(118, 150):
            worth = worths(program, opened)
            rows = [worths_within(program, opened, turns) for turns in range(31)]
            for at, bound in enumerate(phase_bounds(program, opened)):
                for one, other in zip(rows, rows[1:]):
                    self.assertLessEqual(order(one[at]), order(other[at]))
                self.assertLessEqual(order(rows[-1][at]), order(worth[at]))
                first = [turns for turns, row in enumerate(rows) if row[at] == worth[at]]
                if first:
                    self.alike(turns_for(program, opened, bound), first[0])
                    sure += 1
                elif worth[at] is None:
                    self.assertIsNone(turns_for(program, opened, bound))
                else:
                    self.assertGreater(turns_for(program, opened, bound), 30)
        self.assertGreater(sure, 300)

    def test_endless_worths(self):
        up = (["x"], 2, [(0, None)], [(0, 1, ("go",)), (1, 1, ("add", "x", "x", -1)), (1, 1, ("input", "x", (None, None)))])
        self.alike(worths(up, [0, 1]), [None, 0, None, None])
        self.alike([turns_for(up, [0, 1], bound) for bound in phase_bounds(up, [0, 1])], [1, 1, 2, None])
        self.alike([turns_for(up, [0, 1, 2], bound) for bound in phase_bounds(up, [0, 1])], [1, 1, 1, 1])
        self.alike(worths_within(up, [0, 1], 2000), [None, 0, None, 1998])
        ring = (["x"], 1, [(0, 0)], [(0, 0, ("add", "x", "x", 1))])
        self.assertIsNone(turns_for(ring, [0], HIGH))
        long = (["x"], 12, [(None, None)], [(place, place + 1, ("go",)) for place in range(11)])
        self.alike(turns_for(long, list(range(11)), (11, "x", "low")), 12)

    def test_just_2000_and_more(self):
        for last, turns in ((997, 1997), (998, 1999), (999, None), (FAR, None)):
            far = (["x"], 2, [(0, 0)], [(0, 1, ("upto", "x", last)), (1, 0, ("add", "x", "x", 1))])
            if turns is None:
                self.too_many(turns_for, far, [0, 1], HIGH)
            else:
                self.alike(turns_for(far, [0, 1], HIGH), turns)
        even = (["x"], 2, [(0, 0)], [(0, 1, ("upto", "x", 999)), (1, 0, ("add", "x", "x", 1))])
        self.alike(turns_for(even, [0, 1], BEHIND), 2000)
        self.too_many(turns_for, even, [0, 1], HIGH)
        self.alike(turns_for(even, [0, 1], DOWN), 1)
        self.refused(errors.InvalidBound, None, turns_for, even, [0, 1], None)

    def test_counts(self):
        for turns in (-1, True, None, "1", [1], -FAR):
            self.refused(errors.InvalidNumber, turns, worths_within, FIVE, [0, 1], turns)


class Limits(Case):
    def test_within_seconds(self):
        chance = dice(119)
        for top in (2, FAR, FAR):
            began = time.perf_counter()
            program = any_great(chance, top)
            opened = list(range(30))
            told = worths(program, opened)
            plan, reply = best_plan(program, opened), best_reply(program, opened)
            self.assertIs(is_plan(program, opened, plan), True)
            self.assertIs(is_best_plan(program, opened, plan), True)
            self.assertIs(is_best_reply(program, opened, reply), True)
            self.alike(reply_of(program, opened, told), reply)
            sure = sure_of(program, opened, any_plan_of(chance, program, opened))
            most = at_most_of(program, opened, any_reply_of(chance, program, opened))
            for one, worth, other in zip(sure, told, most):
                self.assertTrue(order(one) <= order(worth) <= order(other))
            for bound in phase_bounds(program, opened)[::30]:
                play(program, opened, bound, plan, reply)
            self.assertEqual(len(worths_within(program, opened, 2000)), len(told))
            self.assertLess(time.perf_counter() - began, 20)

    def test_what_always_goes_on(self):
        began = time.perf_counter()
        names = ["a", "b", "c", "d", "e"]
        steps = [(place, (place + 1) % 12, ("add", name, name, 1)) for place in range(12) for name in names][:30]
        program = (names, 12, [(0, 0)] * 5, steps + [(place, place + 1, ("go",)) for place in range(6, 11)] + [(11, 0, ("go",))])
        opened = list(range(len(program[3])))
        self.alike(worths_within(program, opened, 2000)[0] > 900, True)
        self.assertIsNone(turns_for(program, opened, (0, "a", "high")))
        self.assertLess(time.perf_counter() - began, 20)
