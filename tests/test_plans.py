"""[42] to [46] Values of sound plans, roads, gains and rows of plans."""

import time

from stillranges import errors
from stillranges.kinds import is_open
from stillranges.phases import (
    are_kept_values, is_plan, option_worth, options_of, phase_bounds, sides_of)
from stillranges.plans import (
    carried, first_plan, gains, is_road, is_row_of_plans, rest_of, road_of, row_of_plans, turned, values_of, widened)
from stillranges.rings import is_sound
from tests.going_round import least_values_by_rounds
from tests.helpers import FAR, LOOP, Case, any_program, dice
from tests.test_least import any_great
from tests.test_rings import any_circle, any_plan

FIVE = (["x"], 2, [(0, 0)], [(0, 1, ("upto", "x", 4)), (1, 0, ("add", "x", "x", 1))])
LOW = [(None, 0), (None, 0), (0, 0), (0, 0)]
CLIMB = [(1, 0), (None, 0), (0, 0), (0, 0)]
FALL = [(1, 0), (1, 0), (0, 0), (0, 0)]
HIGH = (0, "x", "high")


def all_roads(program, opened, plan):
    """For each bound come to the list of all roads with their sums, found by going every way."""
    bounds = phase_bounds(program, opened)
    sides = {bound: sides_of(program, opened, bound, option) for bound, option in zip(bounds, plan)}
    found = {bound: [] for bound in bounds}

    def go_on(way, total):
        for behind, addend in sides[way[-1]]:
            if behind is None and addend is not None:
                found[way[0]].append((way, total + addend))
            elif behind is not None and behind not in way:
                go_on(way + [behind], total + addend)

    for bound in bounds:
        go_on([bound], 0)
    return found


def some_phases(seed, many, steps=5):
    chance = dice(seed)
    found = []
    while len(found) < many:
        program = any_program(chance, names=2, places=3, steps=steps, endless=0.1)
        if chance.random() < 0.3:
            program = any_circle(chance)
        opened = sorted(chance.sample(range(len(program[3])), chance.randint(0, min(4, len(program[3])))))
        if is_open(program, opened):
            found.append((program, opened, chance))
    return found


def some_sound_plans(seed, many):
    """Phases with a sound plan each."""
    found = []
    for program, opened, chance in some_phases(seed, many * 3):
        plan = any_plan(chance, program, opened)
        if is_sound(program, opened, plan):
            found.append((program, opened, plan, chance))
    return found[:many]


def any_turns(chance, told):
    """Some of the gains, in any order, at most one of a bound."""
    picked = dict(chance.sample(told, chance.randint(1, len(told))))
    return list(picked.items())


class Values(Case):
    def test_of_two_plans(self):
        self.alike(values_of(FIVE, [0, 1], LOW), [0, 0, 0, 0])
        self.alike(values_of(FIVE, [0, 1], CLIMB), [5, 0, 4, 0])
        self.alike(values_of(FIVE, [], [(None, 0), (None, 0)]), [0, 0])
        endless = FIVE[:2] + ([(None, 3)],) + FIVE[3:]
        self.alike(values_of(endless, [0, 1], LOW), [3, None, 3, None])
        up = (["x"], 1, [(0, 0)], [(0, 0, ("add", "x", "x", 1))])
        self.alike(values_of(up, [0], [(0, 0), (None, 0)]), [None, 0])

    def test_the_option_of_each_bound_is_worth_its_value(self):
        for program, opened, plan, _ in some_sound_plans(61, 300):
            values = values_of(program, opened, plan)
            bounds = phase_bounds(program, opened)
            self.alike([option_worth(program, opened, bound, option, values) for bound, option in zip(bounds, plan)], values)

    def test_against_all_roads(self):
        endless = 0
        for program, opened, plan, _ in some_sound_plans(62, 250):
            roads = all_roads(program, opened, plan)
            values = values_of(program, opened, plan)
            for bound, value in zip(phase_bounds(program, opened), values):
                self.alike(value, min((total for _, total in roads[bound]), default=None))
                road = road_of(program, opened, bound, plan)
                endless += value is None
                self.assertEqual(road is None, value is None)
                if road is not None:
                    self.assertIn((road, value), roads[bound])
                    self.assertIs(is_road(program, opened, bound, plan, road), True)
                for way, total in roads[bound]:
                    self.assertIs(is_road(program, opened, bound, plan, way), total == value)
        self.assertGreater(endless, 20)

    def test_what_is_no_road(self):
        road = [HIGH, (1, "x", "high")]
        self.alike(road_of(FIVE, [0, 1], HIGH, CLIMB), road)
        self.assertIs(is_road(FIVE, [0, 1], HIGH, CLIMB, road), True)
        self.assertIs(is_road(FIVE, [0, 1], HIGH, LOW, [HIGH]), True)
        for value in ([], [HIGH], road[::-1], road[1:], tuple(road), road + [HIGH], road * 2, [HIGH, HIGH], None, HIGH, {},
                      [list(bound) for bound in road], [HIGH, (1, "x", "low")], [HIGH, None], [HIGH, (2, "x", "high")],
                      [(False, "x", "high"), (1, "x", "high")], [HIGH, (True, "x", "high")], [[]], [(0, "y", "high")]):
            self.assertIs(is_road(FIVE, [0, 1], HIGH, CLIMB, value), False, value)
        self.assertIs(is_road(FIVE, [0, 1], (0, "x", "low"), CLIMB, [HIGH]), False)
        self.assertIs(is_road(FIVE, [0, 1], HIGH, LOW, road), False)
        self.assertIs(is_road(LOOP, [0, 1], (0, "i", "high"), CLIMB, [(0, "i", "high"), (2, "i", "high")]), False)
        endless = FIVE[:2] + ([(None, 0)],) + FIVE[3:]
        for road in ([(0, "x", "low")], [(1, "x", "low"), (0, "x", "low")]):
            self.assertIs(is_road(endless, [0, 1], road[0], LOW, road), False)
            self.assertIsNone(road_of(endless, [0, 1], road[0], LOW))
        up = (["x"], 1, [(0, 0)], [(0, 0, ("add", "x", "x", 1))])
        self.assertIsNone(road_of(up, [0], HIGH, [(0, 0), (None, 0)]))
        self.assertIs(is_road(up, [0], HIGH, [(0, 0), (None, 0)], [HIGH]), False)

    def test_a_way_that_is_no_shorter_is_a_road_too(self):
        both = (["x", "y"], 2, [(4, 4), (4, 4)], [(0, 1, ("below", "x", "y", 0))])
        plan = first_plan(both, [0])
        for other in ("x", "y"):
            self.assertIs(is_road(both, [0], (1, "x", "high"), plan, [(1, "x", "high"), (0, other, "high")]), True)
        more = both[:2] + ([(4, 4), (5, 5)],) + both[3:]
        for other, expected in (("x", True), ("y", False)):
            self.assertIs(is_road(more, [0], (1, "x", "high"), plan, [(1, "x", "high"), (0, other, "high")]), expected)
        twice = (["x"], 1, [(0, 0)], [(0, 0, ("greatest", "x", "x", "x")), (0, 0, ("set", "x", 3))])
        self.alike(values_of(twice, [0, 1], [(1, 0), (None, 0)]), [3, 0])
        self.alike(road_of(twice, [0, 1], HIGH, [(1, 0), (None, 0)]), [HIGH])


class Turning(Case):
    def test_gains_and_turns(self):
        self.alike(gains(FIVE, [0, 1], LOW), [(HIGH, (1, 0))])
        self.alike(turned(FIVE, [0, 1], LOW, [(HIGH, (1, 0))]), CLIMB)
        self.alike(gains(FIVE, [0, 1], CLIMB), [])
        steps = [(0, 0, ("set", "y", 4)), (0, 0, ("set", "x", -1)), (0, 0, ("set", "x", 2)), (0, 0, ("set", "x", 2)),
                 (0, 0, ("input", "x", (None, 0)))]
        program = (["x", "y"], 1, [(0, 0), (0, 0)], steps)
        told = gains(program, [0, 1, 2, 3, 4], [(None, 0)] * 4)
        self.alike(told, [(HIGH, (2, 0)), (HIGH, (3, 0)), ((0, "x", "low"), (1, 0)), ((0, "x", "low"), (4, 0)),
                          ((0, "y", "high"), (0, 0))])
        self.alike(turned(program, [0, 1, 2, 3, 4], [(None, 0)] * 4, [told[4], told[2], told[0]]), [
            (2, 0), (1, 0), (0, 0), (None, 0)])
        self.alike(gains(program, [0, 1, 2, 3, 4], [(2, 0), (1, 0), (0, 0), (None, 0)]), [((0, "x", "low"), (4, 0))])
        for turns in ([told[0], told[1]], told, [told[0], told[0]], [], [(HIGH, (1, 0))], [(HIGH, (0, 0))], (told[0],),
                      [list(told[0])], None, {}, [None], [(HIGH, (2, False))], [(HIGH, (2, 0, 0))], [((0, "x"), (2, 0))],
                      [([], (2, 0))], [(HIGH, [2, 0])], [((False, "x", "high"), (2, 0))], [told[0], None]):
            self.refused(errors.InvalidPlan, turns, turned, program, [0, 1, 2, 3, 4], [(None, 0)] * 4, turns)

    def test_gains_against_the_worth_of_all_options(self):
        for program, opened, plan, chance in some_sound_plans(63, 300):
            values = values_of(program, opened, plan)
            expected = []
            for bound, value in zip(phase_bounds(program, opened), values):
                for option in options_of(program, opened, bound):
                    worth = option_worth(program, opened, bound, option, values)
                    if value is not None and (worth is None or worth > value):
                        expected.append((bound, option))
            told = gains(program, opened, plan)
            self.alike(told, expected)
            self.assertEqual(told == [], are_kept_values(program, opened, values))
            for _ in range(3 if told else 0):
                turns = any_turns(chance, told)
                new = turned(program, opened, plan, turns)
                self.alike(new, [dict(turns).get(bound, option) for bound, option in zip(phase_bounds(program, opened), plan)])
                self.assertIs(is_sound(program, opened, new), True)
                for bound, old, behind in zip(phase_bounds(program, opened), values, values_of(program, opened, new)):
                    if bound in dict(turns):
                        self.assertTrue(behind is None or behind > old)
                    else:
                        self.assertTrue(behind is None or (old is not None and behind >= old))

    def test_an_option_worth_as_much_is_no_gain(self):
        still = (["x"], 1, [(3, 3)], [(0, 0, ("go",)), (0, 0, ("set", "x", 3))])
        self.alike(gains(still, [0, 1], [(None, 0), (None, 0)]), [])
        turns = [(HIGH, (1, 0))]
        self.refused(errors.InvalidPlan, turns, turned, still, [0, 1], [(None, 0), (None, 0)], turns)

    def test_plans_that_are_not_sound(self):
        for function, rest in ((values_of, []), (gains, []), (row_of_plans, []), (turned, [None])):
            self.refused(errors.Stuck, FALL, function, FIVE, [0, 1], FALL, *rest)
            self.refused(errors.InvalidPlan, FALL, function, FIVE, [], FALL, *rest)
        self.refused(errors.Stuck, FALL, road_of, FIVE, [0, 1], HIGH, FALL)
        self.refused(errors.InvalidBound, None, road_of, FIVE, [0, 1], None, FALL)
        self.refused(errors.Stuck, FALL, is_road, FIVE, [0, 1], HIGH, FALL, None)
        self.refused(errors.Stuck, FALL, carried, FIVE, [0, 1], [0, 1], FALL)
        self.refused(errors.InvalidOpen, None, carried, FIVE, [0, 1], None, FALL)


class Rows(Case):
    def test_first_plans(self):
        self.alike(first_plan(FIVE, []), [(None, 0), (None, 0)])
        for program, opened, _ in some_phases(64, 300):
            plan = first_plan(program, opened)
            self.assertIs(is_plan(program, opened, plan), True)
            self.assertIs(is_sound(program, opened, plan), True)

    def test_from_any_sound_plan(self):
        for program, opened, plan, _ in some_sound_plans(65, 300):
            row = row_of_plans(program, opened, plan)
            self.alike(row[0], plan)
            self.assertIs(is_row_of_plans(program, opened, row), True)
            self.assertEqual(len({tuple(told) for told in row}), len(row))
            for one, other in zip(row, row[1:]):
                turns = [(bound, new) for bound, old, new in zip(phase_bounds(program, opened), one, other) if old != new]
                self.alike(turned(program, opened, one, turns), other)
            self.alike(gains(program, opened, row[-1]), [])
            self.alike(values_of(program, opened, row[-1]), rest_of(program, opened))

    def test_turned_in_any_way(self):
        for program, opened, plan, chance in some_sound_plans(66, 150):
            row = [plan]
            while gains(program, opened, row[-1]):
                row.append(turned(program, opened, row[-1], any_turns(chance, gains(program, opened, row[-1]))))
            self.assertIs(is_row_of_plans(program, opened, row), True)
            self.alike(values_of(program, opened, row[-1]), rest_of(program, opened))
            if len(row) > 1:
                self.assertIs(is_row_of_plans(program, opened, row[:-1]), False)
                self.assertIs(is_row_of_plans(program, opened, row[1:]), True)
                self.assertIs(is_row_of_plans(program, opened, row[::-1]), False)
                self.assertIs(is_row_of_plans(program, opened, row[:1] + row), False)

    def test_bent_rows(self):
        self.alike(row_of_plans(FIVE, [0, 1], LOW), [LOW, CLIMB])
        self.alike(row_of_plans(FIVE, [0, 1], CLIMB), [CLIMB])
        for value in ([LOW], [], [CLIMB, CLIMB], [LOW, LOW, CLIMB], (LOW, CLIMB), [LOW, CLIMB, None], [CLIMB, LOW], None, [None],
                      [FALL], [LOW, FALL], [LOW[:3], CLIMB], [LOW, tuple(CLIMB)], [FALL, CLIMB], {}, [[]],
                      [LOW, [(True, 0)] + CLIMB[1:]], [LOW, CLIMB, LOW, CLIMB]):
            self.assertIs(is_row_of_plans(FIVE, [0, 1], value), False, value)
        self.assertIs(is_row_of_plans(FIVE, [], [[(None, 0), (None, 0)]]), True)

    def test_the_least_kept_values(self):
        for program, opened, _ in some_phases(67, 400):
            rest = rest_of(program, opened)
            self.alike(rest, least_values_by_rounds(program, opened))
            self.assertIs(are_kept_values(program, opened, rest), True)

    def test_no_kept_values_are_less(self):
        for program, opened, chance in some_phases(68, 200):
            rest = rest_of(program, opened)
            for _ in range(20):
                values = [chance.choice([None, chance.randint(-3, 5), value]) for value in rest]
                if are_kept_values(program, opened, values):
                    for value, least in zip(values, rest):
                        self.assertTrue(value is None or (least is not None and least <= value))

    def test_within_seconds_up_to_the_limits(self):
        chance = dice(69)
        began = time.perf_counter()
        for top in (2, 40, 10 ** 12, FAR, FAR):
            program = any_great(chance, top)
            opened = list(range(30))
            plan = first_plan(program, opened)
            row = row_of_plans(program, opened, plan)
            self.assertIs(is_row_of_plans(program, opened, row), True)
            self.alike(values_of(program, opened, row[-1]), rest_of(program, opened))
            for bound in phase_bounds(program, opened)[::11]:
                road = road_of(program, opened, bound, row[-1])
                if road is not None:
                    self.assertIs(is_road(program, opened, bound, row[-1], road), True)
            self.alike(carried(program, [0], opened, first_plan(program, [0]))[:10], first_plan(program, [0])[:10])
        self.assertLess(time.perf_counter() - began, 40)


class Carried(Case):
    def test_into_more_open_steps(self):
        more_places = 0
        for program, more, chance in some_phases(70, 400):
            opened = sorted(chance.sample(more, chance.randint(0, len(more))))
            if not is_open(program, opened):
                continue
            plan = any_plan(chance, program, opened)
            if not is_sound(program, opened, plan):
                continue
            told = carried(program, opened, more, plan)
            self.assertIs(is_plan(program, more, told), True)
            self.assertIs(is_sound(program, more, told), True)
            here = dict(zip(phase_bounds(program, more), told))
            self.alike([here[bound] for bound in phase_bounds(program, opened)], plan)
            values = dict(zip(phase_bounds(program, more), values_of(program, more, told)))
            self.alike([values[bound] for bound in phase_bounds(program, opened)], values_of(program, opened, plan))
            more_places += len(told) > len(plan)
        self.assertGreater(more_places, 30)

    def test_more_that_are_not_more(self):
        plan = first_plan(LOOP, [0, 2])
        for more in ([0], [2], [], [0, 1], [2, 0], (0, 2), [0, 2, 3], [0, 2, 2], None, [0, True], {}, [False, 2], "02"):
            self.refused(errors.InvalidOpen, more, carried, LOOP, [0, 2], more, plan)
        self.alike(carried(LOOP, [0, 2], [0, 2], plan), plan)
        self.alike(carried(LOOP, [0, 2], [0, 1, 2], plan), plan)
        self.alike(carried(LOOP, [], [2], [(None, 0)] * 2), [(None, 0), (None, 0), (2, 0), (2, 0)])


class Widened(Case):
    def test_each_deed(self):
        cases = {
            ("go",): ("go",), ("set", "x", 4): ("input", "x", (1, 7)), ("add", "x", "y", 4): ("add", "x", "y", 4),
            ("turn", "x", "y", 4): ("turn", "x", "y", 4), ("input", "x", (-1, 2)): ("input", "x", (-4, 5)),
            ("input", "x", (None, 2)): ("input", "x", (None, 5)), ("input", "x", (2, None)): ("input", "x", (-1, None)),
            ("least", "x", "y", "x"): ("least", "x", "y", "x"), ("greatest", "x", "y", "x"): ("greatest", "x", "y", "x"),
            ("upto", "x", 4): ("upto", "x", 7), ("from", "x", 4): ("from", "x", 1),
            ("below", "x", "y", 4): ("below", "x", "y", 4), ("equal", "x", "y", 4): ("equal", "x", "y", 4)}
        for deed, expected in cases.items():
            program = (["x", "y"], 2, [(-1, 1), (None, 0)], [(0, 1, deed), (1, 1, ("go",))])
            self.alike(widened(program, 3), (["x", "y"], 2, [(-4, 4), (None, 3)], [(0, 1, expected), (1, 1, ("go",))]))
        self.alike(widened(FIVE, FAR)[3][0], (0, 1, ("upto", "x", 4 + FAR)))

    def test_by_nothing(self):
        self.alike(widened(LOOP, 0), LOOP)
        self.alike(widened((["x"], 1, [(0, 0)], [(0, 0, ("set", "x", 3))]), 0)[3], [(0, 0, ("input", "x", (3, 3)))])

    def test_values_are_more_by_the_count(self):
        for program, opened, _ in some_phases(71, 250):
            rest = rest_of(program, opened)
            for count in (0, 1, 5, FAR):
                more = [None if value is None else value + count for value in rest]
                self.alike(rest_of(widened(program, count), opened), more)

    def test_if_told_reaches_alone_grow(self):
        for program, opened, chance in some_phases(72, 250):
            names, many, start, steps = program
            wide = [(low if low is None else low - chance.randint(0, 3), high if high is None else high + chance.randint(0, 3))
                    for low, high in start]
            for value, more in zip(rest_of(program, opened), rest_of((names, many, wide, steps), opened)):
                self.assertTrue(value is more is None or value <= more <= value + 3)

    def test_counts(self):
        for number in (-1, True, None, "0", [1], -FAR, (1,)):
            self.refused(errors.InvalidNumber, number, widened, LOOP, number)
