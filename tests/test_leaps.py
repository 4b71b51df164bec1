"""[58] to [60] Going round with leaps, down again, and what is lost."""

import itertools
import time

from stillranges import errors
from stillranges.kept import is_kept, led_by
from stillranges.kinds import bounds_of, end_at
from stillranges.leaps import cuts_rings, going_down, leap_rounds, lost, places_lost, stands_still, with_leaps
from stillranges.least import least_table
from stillranges.ranges import table_joined, table_within
from stillranges.turned import mirrored, mirrored_table
from tests.helpers import CLIMB, FAR, LOOP, Case, any_program, copied, dice
from tests.test_least import any_great
from tests.test_rounds import DENSE

ITSELF = (["x"], 2, [(0, 0)], [(0, 1, ("from", "x", 5)), (1, 0, ("set", "x", 9))])
WIDE = [[(0, 9)], [(5, 9)]]


def some_programs(seed, many, endless=0.15):
    chance = dice(seed)
    for _ in range(many):
        yield any_program(chance, names=chance.randint(1, 3), places=chance.randint(1, 4), steps=chance.randint(0, 8),
                          endless=chance.choice([0, endless])), chance


def all_cut(program, places):
    """Whether no place can be come back to by steps none of which leads to one of the places."""
    ways = {(source, target) for source, target, _ in program[3] if target not in places}
    while True:
        more = ways | {(one, other) for one, middle in ways for again, other in ways if middle == again}
        if more == ways:
            return all(source != target for source, target in ways)
        ways = more


def some_cut(program, chance):
    """Some places that cut all rings."""
    lists = [list(places) for many in range(program[1] + 1) for places in itertools.combinations(range(program[1]), many)]
    return chance.choice([places for places in lists if all_cut(program, places)])


def leapt(end, new, side, thresholds):
    if end == new or new is None:
        return new
    beyond = [number for number in thresholds if (number >= new if side == "high" else number <= new)]
    return (min(beyond) if side == "high" else max(beyond)) if beyond else None


def leaps_by_words(program, places, thresholds):
    """The tables of all rounds with leaps, the last one at rest."""
    table = [list(program[2])] + [None] * (program[1] - 1)
    tables = [table]
    while True:
        new = table_joined(program, table, led_by(program, table))
        for place in places:
            if table[place] is not None:
                new[place] = [(leapt(old[0], span[0], "low", thresholds), leapt(old[1], span[1], "high", thresholds))
                              for old, span in zip(table[place], new[place])]
        if new == table:
            return tables
        table = new
        tables.append(table)


def ends_at(program, table, places):
    """The ascending list of the ends at some places that are numbers."""
    return sorted({end for place in places for span in table[place] or [] for end in span if end is not None})


def kept_ones(seed, many):
    """Programs with kept tables, the least one and wider ones."""
    for program, chance in some_programs(seed, many):
        thresholds = sorted(chance.sample(range(-6, 7), chance.randint(0, 3)))
        yield program, with_leaps(program, some_cut(program, chance), thresholds)
        yield program, [[(None, None)] * len(program[0])] * program[1]
        yield program, least_table(program)


class Cutting(Case):
    def test_against_all_ways_round(self):
        cut = 0
        for program, _ in some_programs(211, 250):
            for many in range(program[1] + 1):
                for places in itertools.combinations(range(program[1]), many):
                    self.assertIs(cuts_rings(program, list(places)), all_cut(program, places))
                    cut += all_cut(program, places)
        self.assertGreater(cut, 500)

    def test_rings(self):
        go = ("go",)
        one = (["x"], 3, [(0, 0)], [(1, 1, go)])
        self.alike([cuts_rings(one, places) for places in ([], [0], [1], [2], [0, 2], [0, 1, 2])],
                   [False, False, True, False, False, True])
        # The ring goes through places to which nothing comes.
        far = (["x"], 4, [(0, 0)], [(0, 0, ("from", "x", 1)), (2, 3, go), (3, 2, go), (0, 1, go)])
        self.alike([cuts_rings(far, places) for places in ([], [0], [2], [0, 1], [0, 2], [0, 3])],
                   [False, False, False, False, True, True])
        still = (["x"], 3, [(0, 0)], [(0, 1, go), (0, 2, go), (1, 2, go), (0, 1, go)])
        self.alike([cuts_rings(still, []), cuts_rings((["x"], 1, [(0, 0)], []), [])], [True, True])
        two = (["x"], 3, [(0, 0)], [(0, 1, go), (1, 0, go), (1, 2, go), (2, 1, go)])
        self.alike([cuts_rings(two, places) for places in ([0], [1], [2], [0, 2])], [False, True, False, True])

    def test_what_is_no_list_of_places(self):
        for places in (None, (0, 1), [1, 0], [0, 0], [3], [-1], [True], [0, None], ["0"], 0, {}):
            for function, more in ((cuts_rings, ()), (with_leaps, ([],)), (leap_rounds, ([],)), (with_leaps, ([2, 1],))):
                self.refused(errors.InvalidPlace, places, function, LOOP, places, *more)


class Leaps(Case):
    def test_against_the_words(self):
        least_ones, wider_ones, rounds = 0, 0, []
        for program, chance in some_programs(212, 700):
            places = some_cut(program, chance)
            thresholds = sorted(chance.sample(range(-8, 9), chance.choice([0, 1, 2, 3, 8])))
            tables = leaps_by_words(program, places, thresholds)
            told = with_leaps(program, places, thresholds)
            self.alike(told, tables[-1])
            self.assertEqual(leap_rounds(program, places, thresholds), len(tables) - 1)
            rounds.append(len(tables) - 1)
            least = least_table(program)
            self.assertIs(is_kept(program, told), True)
            self.assertIs(table_within(program, least, told), True)
            if set(ends_at(program, least, places)) <= set(thresholds):
                self.alike(told, least)
            least_ones += told == least
            wider_ones += told != least
            self.alike(with_leaps(program, places, ends_at(program, least, places)), least)
        self.assertTrue(least_ones > 200 and wider_ones > 100 and max(rounds) > 8, (least_ones, wider_ones, max(rounds)))

    def test_thresholds(self):
        self.alike(with_leaps(LOOP, [0], [10]), least_table(LOOP))
        for thresholds, high in (([], None), ([9], None), ([0, 9], None), ([11], 11), ([9, 11, 12], 11), ([10 ** 29], 10 ** 29),
                                 ([-5, 0, 2, 4, 50], 50), (list(range(-20, 20)), 10)):
            self.alike(with_leaps(LOOP, [0], thresholds), [[(0, high)], [(0, 9)], [(10, high)]])
        for thresholds, low in (([], None), ([-9], None), ([-11], -11), ([-12, -11, -9], -11), ([-50, -4, -2, 0, 5], -50)):
            self.alike(with_leaps(mirrored(LOOP), [0], thresholds), [[(low, 0)], [(-9, 0)], [(low, -10)]])
        # More thresholds may lead to a wider table: without 3, x leaps beyond the test at once.
        self.alike(with_leaps(LOOP, [1], [9]), least_table(LOOP))
        self.alike(with_leaps(LOOP, [0, 1, 2], [9, 10]), least_table(LOOP))
        self.alike(with_leaps(LOOP, [1], [10, 20]), [[(0, 11)], [(0, 10)], [(10, 11)]])

    def test_a_place_that_had_no_row_does_not_leap(self):
        chain = (["x"], 3, [(2, 5)], [(0, 1, ("go",)), (1, 2, ("add", "x", "x", 1))])
        self.alike(with_leaps(chain, [0, 1, 2], [0, 100]), least_table(chain))
        self.alike(leap_rounds(chain, [], []), 2)
        later = (["x"], 2, [(2, 5)], [(0, 1, ("go",)), (1, 1, ("upto", "x", 0)), (1, 1, ("set", "x", 7))])
        self.alike(with_leaps(later, [1], [0, 100]), [[(2, 5)], [(2, 100)]])
        self.alike(leap_rounds(later, [1], [0, 100]), 2)
        # An end that is wider leaps, the other one stays.
        self.alike(with_leaps(later, [1], [0, 7]), [[(2, 5)], [(2, 7)]])

    def test_endless_ends(self):
        wide = (["x", "y"], 2, [(None, 3), (0, 0)], [(0, 1, ("input", "y", (0, None))), (1, 0, ("set", "y", 5))])
        self.alike(with_leaps(wide, [0], [7, 20]), [[(None, 3), (0, 7)], [(None, 3), (0, None)]])
        self.alike(with_leaps(wide, [0, 1], [7, 20]), [[(None, 3), (0, 7)], [(None, 3), (0, None)]])
        into = (["x"], 2, [(0, 0)], [(0, 1, ("go",)), (1, 1, ("input", "x", (None, 3)))])
        self.alike(with_leaps(into, [1], [-9, 4]), [[(0, 0)], [(None, 4)]])
        self.alike(leap_rounds(into, [1], [-9, 4]), 2)

    def test_no_steps_and_no_rounds(self):
        still = (["x"], 2, [(0, None)], [])
        self.alike([with_leaps(still, [], []), leap_rounds(still, [], []), leap_rounds(still, [0, 1], [3])],
                   [[[(0, None)], None], 0, 0])
        self.alike(leap_rounds(ITSELF, [0], []), 0)
        self.alike(with_leaps(ITSELF, [0], []), least_table(ITSELF))

    def test_stuck(self):
        for places in ([], [2]):
            for function in (with_leaps, leap_rounds):
                self.refused(errors.Stuck, places, function, LOOP, places, [])
                # Whether they cut all rings is asked ahead of the thresholds, which stand behind.
                self.refused(errors.Stuck, places, function, LOOP, places, None)
        self.alike(leap_rounds(LOOP, [0, 2], []), 3)

    def test_wrong_thresholds(self):
        for thresholds in (None, (), [1, 0], [0, 0], [True], [None], ["1"], [0, 0.5], {}, 3, [[1]]):
            for function in (with_leaps, leap_rounds):
                self.refused(errors.InvalidNumber, thresholds, function, LOOP, [0], thresholds)

    def test_within_seconds_up_to_the_limits(self):
        began = time.perf_counter()
        many = list(range(4000))
        self.alike([[high for _, high in row] for row in with_leaps(DENSE, list(range(12)), many)], [[None] * 5] * 12)
        names = DENSE[0]
        ring = (names, 12, [(0, 0)] * 5, [(at % 12, (at + 1) % 12, ("add", names[at // 12], names[at // 12], 1)) for at in range(24)])
        self.assertGreater(leap_rounds(ring, [0], many), 4000)
        chance = dice(213)
        for top in (3, FAR):
            program = any_great(chance, top)
            table = with_leaps(program, list(range(12)), sorted(chance.sample(range(-5000, 5000), 1000)))
            self.assertIs(is_kept(program, table), True)
            down = going_down(program, table, 2000)
            self.assertIs(table_within(program, down, table), True)
            lost(program, down)
        far = sorted(chance.randint(-FAR, FAR) for _ in range(2000))
        self.alike(with_leaps(LOOP, [0], far)[1], [(0, 9)])
        self.assertLess(time.perf_counter() - began, 20)


class Down(Case):
    def test_against_what_is_led_again_and_again(self):
        still, went = 0, 0
        for program, table in kept_ones(214, 250):
            least = least_table(program)
            at = table
            for many in range(6):
                told = going_down(program, table, many)
                self.alike(told, at)
                self.assertIs(is_kept(program, told), True)
                self.assertIs(table_within(program, least, told), True)
                led = led_by(program, at)
                self.assertIs(table_within(program, led, at), True)
                self.assertIs(stands_still(program, at), led == at)
                still += led == at and at != least
                went += led != at
                at = led
        self.assertTrue(still > 300 and went > 150, (still, went))

    def test_down_to_the_least_table_and_above_it(self):
        leapt_to = with_leaps(LOOP, [0], [])
        self.alike([going_down(LOOP, leapt_to, many) for many in (0, 1, 2)],
                   [leapt_to, [[(0, 10)], [(0, 9)], [(10, None)]], least_table(LOOP)])
        self.alike(stands_still(LOOP, leapt_to), False)
        self.alike(going_down(LOOP, leapt_to, FAR), least_table(LOOP))
        self.alike([stands_still(ITSELF, WIDE), going_down(ITSELF, WIDE, 2000)], [True, WIDE])
        down = (["x"], 1, [(0, 0)], [(0, 0, ("add", "x", "x", -1)), (0, 0, ("upto", "x", FAR))])
        self.alike(going_down(down, [[(None, 7)]], 2000), [[(None, 7)]])
        slow = (["x"], 2, [(0, 0)], [(0, 1, ("add", "x", "x", -1)), (1, 0, ("from", "x", 0))])
        self.alike(going_down(slow, [[(0, FAR)], [(-1, FAR)]], 2000), [[(0, FAR - 1000)], [(-1, FAR - 1000)]])
        self.alike(going_down(slow, [[(0, FAR)], [(-1, FAR)]], 3), [[(0, FAR - 1)], [(-1, FAR - 2)]])

    def test_tables_that_are_not_kept(self):
        table = least_table(LOOP)
        for bent in ([None] * 3, [None] + table[1:], [[(0, 9)]] + table[1:], [table[0], None, table[2]], table[:2],
                     [[(1, 10)]] + table[1:], tuple(table), None, [[(0, 10)], [(1, 9)], [(10, 10)]]):
            for function, more in ((going_down, (1,)), (going_down, (None,)), (stands_still, ()), (lost, ()), (places_lost, ())):
                self.refused(errors.InvalidTable, bent, function, LOOP, bent, *more)

    def test_wrong_counts(self):
        for many in (-1, True, None, "2", [2]):
            self.refused(errors.InvalidNumber, many, going_down, LOOP, least_table(LOOP), many)

    def test_a_new_table(self):
        table = copied(WIDE)
        told = going_down(ITSELF, table, 0)
        told[0].append(None)
        told.append(None)
        self.alike(table, WIDE)
        self.alike(going_down(ITSELF, table, 0), WIDE)


class Lost(Case):
    def test_against_the_words(self):
        alone = 0
        for program, table in kept_ones(215, 250):
            least = least_table(program)
            expected = []
            for bound in bounds_of(program):
                if least[bound[0]] is not None and end_at(program, table, bound) != end_at(program, least, bound):
                    end, here = end_at(program, least, bound), end_at(program, table, bound)
                    expected.append((bound, None if here is None else abs(here - end)))
            self.alike(lost(program, table), expected)
            places = [place for place in range(program[1]) if table[place] is not None and least[place] is None]
            self.alike(places_lost(program, table), places)
            self.assertIs(expected == [] and places == [], table == least)
            alone += bool(places)
        self.assertGreater(alone, 5)

    def test_endless_alone_and_rows_alone(self):
        self.alike(lost(LOOP, [[(-2, None)], [(-2, 9)], [(10, None)]]), [
            ((0, "i", "high"), None), ((0, "i", "low"), 2), ((1, "i", "low"), 2), ((2, "i", "high"), None)])
        self.alike([lost(LOOP, least_table(LOOP)), places_lost(LOOP, least_table(LOOP))], [[], []])
        self.alike([lost(ITSELF, WIDE), places_lost(ITSELF, WIDE)], [[((0, "x", "high"), 9)], [1]])
        still = (["x"], 3, [(0, 0)], [(1, 2, ("add", "x", "x", 1)), (0, 0, ("go",))])
        for table, places in (([[(0, 0)], None, None], []), ([[(0, 0)], [(7, FAR)], [(8, None)]], [1, 2]),
                              ([[(0, 0)], None, [(8, None)]], [2])):
            self.alike([lost(still, table), places_lost(still, table)], [[], places])
        endless = (["x", "y"], 1, [(None, 3), (0, None)], [])
        self.alike(lost(endless, [[(None, 9), (-FAR, None)]]), [((0, "x", "high"), 6), ((0, "y", "low"), FAR)])

    def test_mirrored(self):
        for program, table in kept_ones(216, 60):
            turned = lost(mirrored(program), mirrored_table(program, table))
            self.alike(sorted((place, name, "low" if side == "high" else "high") for (place, name, side), _ in turned),
                       [bound for bound, _ in lost(program, table)])
            self.alike(places_lost(mirrored(program), mirrored_table(program, table)), places_lost(program, table))
        self.alike(lost(CLIMB, [[(0, None)], [(0, 5)], [(0, None)]]), [
            ((0, "x", "high"), None), ((1, "x", "high"), 3), ((2, "x", "high"), None), ((2, "x", "low"), 3)])
