"""[41] Rings of plans."""

import itertools
import time

from stillranges import errors
from stillranges.kinds import is_open
from stillranges.phases import options_of, phase_bounds, sides_of
from stillranges.rings import is_ring, is_sound, loose_ring, ring_sum
from tests.helpers import FAR, LOOP, Case, any_program, dice

CLIMB = [(1, 0), (None, 0), (0, 0), (0, 0)]
FALL = [(1, 0), (1, 0), (0, 0), (0, 0)]
HIGHS = [(0, "i", "high"), (1, "i", "high")]
LOWS = [(0, "i", "low"), (1, "i", "low")]


def all_rings(program, opened, plan):
    """All rings of a plan, each begun at each of its bounds, with their sums, found by going every way."""
    bounds = phase_bounds(program, opened)
    sides = {bound: [side for side in sides_of(program, opened, bound, option) if side[0] is not None]
             for bound, option in zip(bounds, plan)}
    found = []

    def go_on(way, total):
        for behind, addend in sides[way[-1]]:
            if behind == way[0]:
                found.append((way, total + addend))
            elif behind not in way:
                go_on(way + [behind], total + addend)

    for bound in bounds:
        go_on([bound], 0)
    return found


def any_circle(chance):
    """A program of three places in a ring whose steps lead more often up than down."""
    steps = []
    for place in (0, 1, 2):
        x, y = chance.sample(["a", "b"], 2)
        deed = chance.choice([("add", x, chance.choice([x, y]), chance.randint(-1, 3)), ("turn", x, y, 1),
                              ("below", x, y, chance.randint(-1, 2)), ("equal", x, y, chance.randint(-1, 2)),
                              ("least", x, x, y), ("greatest", x, y, x), ("add", "a", "b", 2), ("add", "b", "a", 1)])
        steps.append((place, (place + 1) % 3, deed))
    return (["a", "b"], 3, [(0, 0), (0, 0)], steps)


def any_plan(chance, program, opened):
    """A plan that often takes the start at low bounds: where all goes round, hardly any plan is sound."""
    plan = []
    for bound in phase_bounds(program, opened):
        options = options_of(program, opened, bound)
        plan.append(options[0] if bound[2] == "low" and chance.random() < 0.8 else chance.choice(options))
    return plan


class Rings(Case):
    def test_rings_begun_at_any_of_their_bounds(self):
        for ring in (HIGHS, HIGHS[::-1]):
            self.assertIs(is_ring(LOOP, [0, 1], CLIMB, ring), True)
            self.alike(ring_sum(LOOP, [0, 1], CLIMB, ring), 1)
        for ring in (LOWS, LOWS[::-1]):
            self.assertIs(is_ring(LOOP, [0, 1], CLIMB, ring), False)
            self.assertIs(is_ring(LOOP, [0, 1], FALL, ring), True)
            self.alike(ring_sum(LOOP, [0, 1], FALL, ring), -1)

    def test_what_is_no_ring(self):
        for ring in ([], HIGHS[:1], HIGHS + HIGHS, HIGHS + HIGHS[:1], tuple(HIGHS), [list(bound) for bound in HIGHS],
                     [(False, "i", "high"), (1, "i", "high")], [(0, "i", "high"), (2, "i", "high")], HIGHS + LOWS, None,
                     [(0, "i"), (1, "i")], [[]], [None], [(0, "i", "high"), None], HIGHS[0], {}):
            self.assertIs(is_ring(LOOP, [0, 1], FALL, ring), False)
            self.refused(errors.InvalidPaper, ring, ring_sum, LOOP, [0, 1], FALL, ring)

    def test_rings_of_one_bound(self):
        for number, names in ((1, ["high"]), (-1, ["low"]), (0, [])):
            one = (["x"], 1, [(0, 0)], [(0, 0, ("add", "x", "x", number))])
            plan = [(0, 0), (0, 0)]
            for side, total in (("high", number), ("low", -number)):
                ring = [(0, "x", side)]
                self.assertIs(is_ring(one, [0], plan, ring), True)
                self.alike(ring_sum(one, [0], plan, ring), total)
            self.assertIs(is_sound(one, [0], plan), False)
            for side in ("high", "low"):
                loose = [(0, 0), (None, 0)] if side == "high" else [(None, 0), (0, 0)]
                self.assertIs(is_sound(one, [0], loose), side in names)
                self.alike(loose_ring(one, [0], loose), None if side in names else [(0, "x", side)])
                self.assertIs(is_ring(one, [0], loose, [(0, "x", side)]), True)
                self.assertIs(is_ring(one, [0], [(None, 0)] * 2, [(0, "x", side)]), False)

    def test_turned_about(self):
        turn = (["x"], 1, [(0, 0)], [(0, 0, ("turn", "x", "x", 5))])
        plan = [(0, 0), (0, 0)]
        ring = [(0, "x", "high"), (0, "x", "low")]
        self.alike(ring_sum(turn, [0], plan, ring), 0)
        self.assertIs(is_ring(turn, [0], plan, ring[:1]), False)
        self.assertIs(is_sound(turn, [0], plan), False)
        self.alike(sorted(loose_ring(turn, [0], plan)), ring)
        self.assertIs(is_sound(turn, [0], [(0, 0), (None, 0)]), True)

    def test_an_option_both_of_whose_sides_lead_to_one_bound(self):
        twice = (["x", "y"], 1, [(0, 0), (0, 0)], [(0, 0, ("least", "x", "y", "y")), (0, 0, ("add", "y", "x", 1))])
        plan = [(0, 0), (None, 0), (1, 0), (None, 0)]
        ring = [(0, "x", "high"), (0, "y", "high")]
        self.assertIs(is_ring(twice, [0, 1], plan, ring), True)
        self.alike(ring_sum(twice, [0, 1], plan, ring), 1)
        self.assertIs(is_sound(twice, [0, 1], plan), True)
        itself = (["x"], 1, [(0, 0)], [(0, 0, ("least", "x", "x", "x"))])
        self.assertIs(is_ring(itself, [0], [(0, 0), (None, 0)], [(0, "x", "high")]), True)
        self.alike(ring_sum(itself, [0], [(0, 0), (None, 0)], [(0, "x", "high")]), 0)
        self.alike(loose_ring(itself, [0], [(0, 0), (None, 0)]), [(0, "x", "high")])

    def test_sums_at_0_above_and_below(self):
        for number in (-FAR, -2, -1, 0, 1, 2, FAR):
            pair = (["x", "y"], 2, [(0, 0), (0, 0)], [(0, 1, ("add", "x", "y", 1)), (1, 0, ("add", "y", "x", number - 1))])
            plan = [(None, 0), (None, 0), (1, 0), (None, 0)] + [(0, 0)] * 4
            ring = [(0, "y", "high"), (1, "x", "high")]
            self.assertIs(is_ring(pair, [0, 1], plan, ring), True)
            self.alike(ring_sum(pair, [0, 1], plan, ring), number)
            self.assertIs(is_sound(pair, [0, 1], plan), number > 0)
            if number > 0:
                self.assertIsNone(loose_ring(pair, [0, 1], plan))
            else:
                self.alike(sorted(loose_ring(pair, [0, 1], plan)), ring)

    def test_a_ring_through_all_bounds(self):
        for number, sound in ((4, True), (5, False), (6, False)):
            steps = [(0, 0, ("turn", "x", "x", 5)), (0, 0, ("turn", "x", "x", number))]
            whole = (["x"], 1, [(0, 0)], steps)
            plan = [(0, 0), (1, 0)]
            self.alike(ring_sum(whole, [0, 1], plan, [(0, "x", "low"), (0, "x", "high")]), 5 - number)
            self.assertIs(is_sound(whole, [0, 1], plan), sound)
            self.assertEqual(loose_ring(whole, [0, 1], plan) is None, sound)

    def test_against_all_rings(self):
        chance = dice(13)
        sound = []
        while len(sound) < 400:
            program = chance.choice([any_program(chance, places=3, steps=4), any_circle(chance), any_circle(chance)])
            many = len(program[3])
            opened = sorted(chance.sample(range(many), chance.randint(1, many)))
            if not is_open(program, opened):
                continue
            plan = any_plan(chance, program, opened)
            rings = all_rings(program, opened, plan)
            if not rings:
                self.assertIsNone(loose_ring(program, opened, plan))
                continue
            for ring, total in rings:
                self.assertIs(is_ring(program, opened, plan, ring), True)
                self.alike(ring_sum(program, opened, plan, ring), total)
            known = [ring for ring, _ in rings]
            for many in (1, 2):
                for ring in itertools.permutations(phase_bounds(program, opened), many):
                    self.assertIs(is_ring(program, opened, plan, list(ring)), list(ring) in known)
            loose = loose_ring(program, opened, plan)
            expected = all(total > 0 for _, total in rings)
            self.assertIs(is_sound(program, opened, plan), expected)
            self.assertEqual(loose is None, expected)
            if loose is not None:
                self.assertIn(loose, known)
                self.assertLessEqual(ring_sum(program, opened, plan, loose), 0)
            sound.append(expected)
        self.assertGreater(sound.count(True), 20)
        self.assertGreater(sound.count(False), 20)

    def test_within_seconds_up_to_the_limits(self):
        names = ["a", "b", "c", "d", "e"]
        began = time.perf_counter()
        for last, sound in ((-10, True), (-11, False), (-FAR, False)):
            steps = [(place, (place + 1) % 12, ("add", "a", "a", 1 if place < 11 else last)) for place in range(12)]
            program = (names, 12, [(0, 0)] * 5, steps)
            opened = list(range(12))
            plan = [(None, 0)] * 10
            for bound in phase_bounds(program, opened)[10:]:
                plan.append((bound[0] - 1, 0))
            plan[0] = (11, 0)
            self.assertIs(is_sound(program, opened, plan), sound)
            loose = loose_ring(program, opened, plan)
            self.assertEqual(loose is None, sound)
            if loose is not None:
                self.assertEqual(sorted(loose), [(place, "a", "high") for place in range(12)])
        self.assertLess(time.perf_counter() - began, 20)
