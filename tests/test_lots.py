"""[32] to [35] Lots that can be lowered, falls, and why a level table is not the least one."""

import itertools
import time

from stillranges import errors
from stillranges.kept import holding_at, is_kept
from stillranges.kinds import bounds_of, end_at
from stillranges.least import least_table
from stillranges.lots import (
    can_be_lowered, greatest_fall, greatest_lot, is_fall, is_level, lowered_by, lowest, rounds_down, why_not_least)
from stillranges.ranges import table_joined, table_within
from stillranges.kept import led_by
from tests.going_round import limited
from tests.helpers import FAR, LOOP, Case, any_program, any_span, copied, dice
from tests.later_calls import BOTH, ENDLESS, LEAST, WIDER
from tests.test_least import any_great

ITSELF = (["x"], 2, [(0, 0)], [(0, 1, ("from", "x", 5)), (1, 0, ("set", "x", 9))])
# x becomes y + 1 and y becomes x - 1, over and over.
TURNS = (["x", "y"], 2, [(0, 0), (0, 0)], [(0, 1, ("add", "x", "y", 1)), (1, 0, ("add", "y", "x", -1))])


def with_end(table, program, bound, end):
    place, name, side = bound
    at = program[0].index(name)
    table = copied(table)
    low, high = table[place][at]
    table[place][at] = (end, high) if side == "low" else (low, end)
    return table


def lowered_plainly(program, table, lot):
    """The table lowered by a lot, None if some low end comes above the high one."""
    lowered = table
    for bound in lot:
        lowered = with_end(lowered, program, bound, end_at(program, table, bound) + (1 if bound[2] == "low" else -1))
    for row in lowered:
        for low, high in row or []:
            if low is not None and high is not None and low > high:
                return None
    return lowered


def with_fall(program, table, fall, more):
    """The table with the numbers of a fall, more by a count."""
    for bound, number in fall:
        table = with_end(table, program, bound, number + more if bound[2] == "high" else -number - more)
    return table


def numbered(program, table):
    """The bounds whose values in a table are numbers, and those that are endless there."""
    there = [bound for bound in bounds_of(program) if table[bound[0]] is not None]
    endless = [bound for bound in there if end_at(program, table, bound) is None]
    return [bound for bound in there if bound not in endless], endless


def level_plainly(program, table):
    least = least_table(program)
    return (is_kept(program, table) and [row is None for row in table] == [row is None for row in least]
            and holding_at(program, table) == holding_at(program, least))


def kept_above(chance, program, endless):
    """A kept table that holds the least one: some ranges are wider at first, and what they lead to is taken in."""
    table = least_table(program)
    wider = [None if chance.random() < 0.4 else [
        any_span(chance, -3, 3, endless) if chance.random() < 0.6 else span for span in row or program[2]] for row in table]
    table = table_joined(program, table, wider)
    while not is_kept(program, table):
        table = table_joined(program, table, led_by(program, table))
        table = [None if row is None else [limited(span, 40) for span in row] for row in table]
    return table


def some_tables(seed, many, names=2, places=3, steps=5, endless=0.15):
    """Programs with kept tables, level ones and others."""
    chance = dice(seed)
    for _ in range(many):
        program = any_program(chance, names=chance.randint(1, names), places=chance.randint(1, places),
                              steps=chance.randint(1, steps), endless=chance.choice([0, 0, 0.1]))
        yield program, kept_above(chance, program, endless), chance


class Level(Case):
    def test_against_what_is_told(self):
        told = []
        for program, table, _ in some_tables(91, 500):
            expected = level_plainly(program, table)
            self.assertIs(is_level(program, table), expected)
            self.assertIs(is_level(program, least_table(program)), True)
            told.append(expected)
        self.assertTrue(min(told.count(True), told.count(False)) > 60, told.count(True))

    def test_tables_that_are_not(self):
        for table in ([[(0, 9)], [(0, 9)], [(10, 10)]], [[(0, 10)], [(0, 9)], None], [None] * 3, [[(0, 12)], [(0, 9)], [(11, 12)]],
                      [None, [(0, 9)], [(10, 10)]]):
            self.assertIs(is_level(LOOP, table), False)
            for function in (greatest_lot, lowest, rounds_down, greatest_fall, why_not_least):
                self.refused(errors.Stuck, table, function, LOOP, table)
            self.refused(errors.Stuck, table, is_fall, LOOP, table, None)
        for table in (LEAST, WIDER, ENDLESS, [[(None, None)], [(None, 9)], [(10, None)]]):
            self.assertIs(is_level(LOOP, table), True)
        # This table keeps its own step open: it is kept, and not level.
        self.assertIs(is_level(ITSELF, [[(0, 9)], [(5, 9)]]), False)
        self.assertIs(is_level(ITSELF, [[(0, 4)], None]), True)
        self.assertIs(is_level(ITSELF, [[(0, 0)], [(5, 5)]]), False)
        shut = (["x"], 1, [(0, 0)], [(0, 0, ("from", "x", 3))])
        self.alike([is_level(shut, [[(0, high)]]) for high in (0, 2, 3, None)], [True, True, False, False])


class Lots(Case):
    def test_can_be_lowered_against_the_kept_table(self):
        can = 0
        for program, table, chance in some_tables(92, 300):
            bounds, _ = numbered(program, table)
            for _ in range(6):
                lot = sorted(chance.sample(bounds, chance.randint(min(1, len(bounds)), len(bounds))))
                if not lot:
                    continue
                lowered = lowered_plainly(program, table, lot)
                expected = lowered is not None and is_kept(program, lowered)
                self.assertIs(can_be_lowered(program, table, lot), expected)
                can += expected
                if expected:
                    self.alike(lowered_by(program, table, lot), lowered)
                else:
                    self.refused(errors.Stuck, lot, lowered_by, program, table, lot)
        self.assertGreater(can, 100)

    def test_lots_of_the_loop(self):
        for lot, expected in ((BOTH, True), (BOTH[:1], True), (BOTH[1:], False), ([(0, "i", "high"), (1, "i", "high")], False),
                              ([(2, "i", "low")], False)):
            self.assertIs(can_be_lowered(LOOP, WIDER, lot), expected)
        self.alike(lowered_by(LOOP, WIDER, BOTH), [[(0, 11)], [(0, 9)], [(10, 11)]])
        far = [[(0, FAR)], [(0, 9)], [(10, FAR)]]
        self.alike(lowered_by(LOOP, far, BOTH), [[(0, FAR - 1)], [(0, 9)], [(10, FAR - 1)]])
        one = (["x"], 1, [(0, 0)], [])
        self.alike(lowered_by(one, [[(-2, 3)]], [(0, "x", "high"), (0, "x", "low")]), [[(-1, 2)]])
        self.alike(lowered_by(one, [[(-2, 3)]], [(0, "x", "low")]), [[(-1, 3)]])

    def test_of_tables_that_are_not_level(self):
        wide = [[(0, 9)], [(5, 9)]]
        self.assertIs(can_be_lowered(ITSELF, wide, [(0, "x", "high"), (1, "x", "high")]), False)
        self.assertIs(can_be_lowered(ITSELF, [[(0, 11)], [(5, 11)]], [(0, "x", "high"), (1, "x", "high")]), True)
        # Ranges that come to nothing are no table; and what is not kept may be lowered to what is.
        spot = (["x"], 2, [(0, 0)], [(0, 1, ("go",))])
        self.assertIs(can_be_lowered(spot, [[(0, 0)], [(0, 0)]], [(1, "x", "high"), (1, "x", "low")]), False)
        self.assertIs(can_be_lowered(spot, [[(0, 1)], [(0, 0)]], [(0, "x", "high")]), True)

    def test_what_is_no_lot(self):
        for lot in ([], None, BOTH[::-1], BOTH + BOTH, tuple(BOTH), [(0, "i", "high"), None], [(3, "i", "low")], BOTH[0], {},
                    [list(BOTH[0])], [(0, "j", "high")], [(True, "i", "high")], [[]], "high"):
            self.refused(errors.InvalidBound, lot, can_be_lowered, LOOP, WIDER, lot)
            self.refused(errors.InvalidBound, lot, lowered_by, LOOP, WIDER, lot)
        lot = [(0, "i", "high")]
        self.refused(errors.InvalidBound, lot, lowered_by, LOOP, ENDLESS, lot)
        self.refused(errors.InvalidBound, lot, lowered_by, LOOP, [None, [(0, 0)], None], lot)
        self.refused(errors.Stuck, lot, lowered_by, LOOP, LEAST, lot)
        self.refused(errors.InvalidTable, None, lowered_by, LOOP, None, None)

    def test_the_greatest_one_against_all_lots(self):
        checked = 0
        for program, table, _ in some_tables(93, 700, steps=4):
            if not level_plainly(program, table):
                continue
            bounds, _ = numbered(program, table)
            if len(bounds) > 8:
                continue
            stand = set()
            for many in range(1, len(bounds) + 1):
                for lot in itertools.combinations(bounds, many):
                    lowered = lowered_plainly(program, table, lot)
                    if lowered is not None and is_kept(program, lowered):
                        stand |= set(lot)
            lot = greatest_lot(program, table)
            self.alike(lot, sorted(stand))
            if lot:
                checked += 1
                self.assertIs(can_be_lowered(program, table, lot), True)
        self.assertGreater(checked, 50)


class Lowest(Case):
    def test_against_lowering_again_and_again(self):
        most = 0
        for program, table, _ in some_tables(94, 400):
            if not level_plainly(program, table):
                continue
            told, rounds = copied(table), 0
            while greatest_lot(program, told):
                told = lowered_by(program, told, greatest_lot(program, told))
                rounds += 1
            self.alike(lowest(program, table), told)
            self.alike(rounds_down(program, table), rounds)
            bounds, endless = numbered(program, table)
            self.alike(rounds, max([abs(end_at(program, table, bound) - end_at(program, told, bound)) for bound in bounds] + [0]))
            self.alike(numbered(program, told)[1], endless)
            if not endless:
                self.alike(told, least_table(program))
            most = max(most, rounds)
        self.assertGreater(most, 2)

    def test_within_each_level_table_with_the_same_endless_ends(self):
        pairs = 0
        by_program = {}
        for program, table, chance in some_tables(95, 60):
            for _ in range(12):
                other = kept_above(chance, program, 0.1)
                if level_plainly(program, other):
                    by_program.setdefault((repr(program), repr(numbered(program, other)[1])), []).append((program, other))
        for tables in by_program.values():
            low = lowest(*tables[0])
            for program, table in tables:
                self.assertTrue(table_within(program, low, table))
                self.alike(lowest(program, table), low)
                pairs += 1
        self.assertGreater(pairs, 100)

    def test_far_down(self):
        for more in (0, 1, FAR):
            table = [[(0, 10 + more)], [(0, 9)], [(10, 10 + more)]]
            self.alike(lowest(LOOP, table), LEAST)
            self.alike(rounds_down(LOOP, table), more)
        self.alike(rounds_down(LOOP, [[(-FAR, 12)], [(-FAR, 9)], [(10, 12)]]), FAR)
        self.alike(lowest(LOOP, ENDLESS), ENDLESS)
        self.alike(rounds_down(LOOP, ENDLESS), 0)
        self.alike(lowest(LOOP, [[(-7, None)], [(-7, 9)], [(10, None)]]), ENDLESS)
        self.alike(rounds_down((["x"], 1, [(None, None)], []), [[(None, None)]]), 0)


class Falls(Case):
    def test_of_the_loop(self):
        for fall, expected in (([(BOTH[0], 0), (BOTH[1], 0)], True), ([(BOTH[0], -7), (BOTH[1], -7)], True),
                               ([(BOTH[0], FAR), (BOTH[1], FAR)], True), ([(BOTH[0], 5), (BOTH[1], 9)], True),
                               ([(BOTH[0], 0), (BOTH[1], -1)], False), ([(BOTH[0], 0)], True), ([(BOTH[1], 0)], False)):
            self.assertIs(is_fall(LOOP, ENDLESS, fall), expected, fall)

    def test_bent(self):
        fall = [(BOTH[0], 0), (BOTH[1], 1)]
        for value in (fall[::-1], fall + fall[1:], tuple(fall), [list(fall[0])] + fall[1:], [], None, {}, fall + [None],
                      [(BOTH[0], 0, 0)], [(BOTH[0], None)], [(BOTH[0], True)], [(BOTH[0], "0")], [(list(BOTH[0]), 0)],
                      [((1, "i", "high"), 0)], [((0, "i", "low"), 0)], [((False, "i", "high"), 0)] + fall[1:], [[]], [()],
                      [((3, "i", "high"), 0)], [(0, BOTH[0])], fall[0], [((0, "j", "high"), 0)]):
            self.assertIs(is_fall(LOOP, ENDLESS, value), False, value)
        self.assertIs(is_fall(LOOP, WIDER, fall), False)
        # At a place to which nothing comes no end is endless.
        for place, expected in ((0, True), (1, False)):
            self.assertIs(is_fall(ITSELF, [[(None, 0)], None], [((place, "x", "low"), 0)]), expected)

    def test_unlike_numbers(self):
        """One number for all will not do where one bound is always one more than the other."""
        table = [[(0, None), (0, None)], [(1, None), (0, None)]]
        self.assertIs(is_level(TURNS, table), True)
        fall = greatest_fall(TURNS, table)
        self.alike(fall, [((0, "x", "high"), 1), ((0, "y", "high"), 0), ((1, "x", "high"), 1), ((1, "y", "high"), 0)])
        self.assertIs(is_fall(TURNS, table, fall), True)
        self.assertIs(is_fall(TURNS, table, [(bound, 1) for bound, _ in fall]), False)
        self.alike(why_not_least(TURNS, table), ("fall", fall))

    def test_what_climbs_does_not_fall(self):
        up = (["x"], 1, [(0, 0)], [(0, 0, ("add", "x", "x", 1))])
        self.alike(greatest_fall(up, [[(0, None)]]), [])
        self.assertIs(is_fall(up, [[(0, None)]], [((0, "x", "high"), 5)]), False)
        self.alike(greatest_fall(up, [[(None, None)]]), [((0, "x", "low"), 0)])
        wide = (["x"], 1, [(0, None)], [])
        self.alike(greatest_fall(wide, [[(None, None)]]), [((0, "x", "low"), 0)])
        self.alike(greatest_fall(wide, [[(0, None)]]), [])

    def test_far_apart(self):
        """The count of a bound is as great as what is added on the way to it."""
        far = (["x"], 3, [(0, 0)], [(0, 1, ("add", "x", "x", FAR)), (1, 2, ("add", "x", "x", -FAR - 3))])
        table = [[(None, None)]] * 3
        self.alike(greatest_fall(far, copied(table)), [
            ((0, "x", "high"), 0), ((0, "x", "low"), 0), ((1, "x", "high"), FAR), ((1, "x", "low"), 0),
            ((2, "x", "high"), 0), ((2, "x", "low"), FAR + 3)])

    def test_against_kept_tables_far_out(self):
        """All numbers here are small: what holds with some thousands more holds from some count on."""
        chance = dice(96)
        told = []
        for program, table, _ in some_tables(97, 600, endless=0.5):
            _, endless = numbered(program, table)
            if not endless or not level_plainly(program, table):
                continue
            for _ in range(10):
                some = sorted(chance.sample(endless, chance.randint(1, len(endless))))
                fall = [(bound, chance.randint(-2, 2)) for bound in some]
                expected = all(is_kept(program, with_fall(program, table, fall, more)) for more in (5000, 5001, 90000))
                self.assertIs(is_fall(program, table, fall), expected)
                told.append(expected)
        self.assertTrue(min(told.count(True), told.count(False)) > 100)

    def test_the_greatest_one_against_all_falls(self):
        checked = 0
        for program, table, _ in some_tables(98, 900, steps=4, endless=0.5):
            _, endless = numbered(program, table)
            if not 1 <= len(endless) <= 3 or not level_plainly(program, table):
                continue
            falls = []
            for many in range(1, len(endless) + 1):
                for some in itertools.combinations(endless, many):
                    for counts in itertools.product(range(8), repeat=many):
                        fall = list(zip(some, counts))
                        if is_kept(program, with_fall(program, table, fall, 5000)):
                            falls.append(dict(fall))
            bounds = sorted({bound for fall in falls for bound in fall})
            together = [fall for fall in falls if sorted(fall) == bounds]
            expected = [(bound, min(fall[bound] for fall in together)) for bound in bounds]
            self.alike(greatest_fall(program, table), expected)
            if expected:
                self.assertIs(is_fall(program, table, expected), True)
                checked += 1
        self.assertGreater(checked, 50)


class Why(Case):
    def test_exactly_the_least_table_has_neither(self):
        kinds = []
        for program, table, _ in some_tables(99, 500, endless=0.3):
            if not level_plainly(program, table):
                continue
            why = why_not_least(program, table)
            is_it = table == least_table(program)
            self.assertEqual(why is None, is_it)
            self.assertEqual(greatest_lot(program, table) == [] and greatest_fall(program, table) == [], is_it)
            if why is not None:
                kinds.append(why[0])
                self.assertEqual(len(why), 2)
                if why[0] == "lot":
                    self.assertIs(can_be_lowered(program, table, why[1]), True)
                else:
                    self.assertIs(is_fall(program, table, why[1]), True)
        self.assertEqual(set(kinds), {"lot", "fall"})

    def test_of_the_loop(self):
        self.assertIsNone(why_not_least(LOOP, LEAST))
        self.alike(why_not_least(LOOP, WIDER)[0], "lot")
        self.alike(why_not_least(LOOP, ENDLESS)[0], "fall")

    def test_within_seconds_up_to_the_limits(self):
        chance = dice(100)
        began = time.perf_counter()
        for top in (2, 50, FAR):
            program = any_great(chance, top)
            table = least_table(program)
            self.alike(greatest_lot(program, table), [])
            self.alike(greatest_fall(program, table), [])
            wide = [None if row is None else [(None, None)] * 5 for row in table]
            if is_level(program, wide):
                self.assertEqual(why_not_least(program, wide) is None, table == wide)
        line = (["a", "b", "c", "d", "e"], 12, [(0, 0)] * 5, [
            (place, place + 1, ("add", name, name, FAR)) for place in range(11) for name in "ab"])
        wide = [[(-FAR * place, FAR * (place + 2))] * 5 for place in range(12)]
        self.assertIs(is_level(line, wide), True)
        self.assertEqual(len(greatest_lot(line, wide)), 12 * 5 + 11 * 5)
        self.alike(rounds_down(line, wide), FAR * 13)
        self.alike(lowest(line, wide), least_table(line))
        endless = [[(None, None)] * 5 for _ in range(12)]
        self.assertEqual(len(greatest_fall(line, endless)), 120)
        self.assertLess(time.perf_counter() - began, 20)
