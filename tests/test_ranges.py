"""[15] and [16] Ranges, rows and tables."""

import itertools

from stillranges.ranges import (
    how_many_held, row_joined, row_met, row_within, span_greatest, span_holds, span_joined, span_least, span_met,
    span_plus, span_turned, span_within, table_joined, table_met, table_within)
from tests.helpers import FAR, LOOP, Case, any_span, dice, numbers_held

SMALL = [(low, high) for low in range(-2, 3) for high in range(low, 3)]
# An endless end is held against one that lies further and further away: what moves with it is endless.
ALL = SMALL + [(None, high) for high in range(-2, 3)] + [(low, None) for low in range(-2, 3)] + [(None, None)]


def held(span, far):
    """The numbers of a range that are at most so far away."""
    low, high = span
    return range(-far if low is None else low, (far if high is None else high) + 1)


def span_of(numbers, more):
    """The range of some numbers, with an endless end where more of them reach further; None if there are none."""
    if not numbers:
        return None
    low = None if min(more) < min(numbers) else min(numbers)
    return (low, None if max(more) > max(numbers) else max(numbers))


def by_numbers(made, *spans):
    """The range that is made of each choice of one number of each range, and the check that it has no gap."""
    told = [sorted({made(*numbers) for numbers in itertools.product(*[held(span, far) for span in spans])} - {None})
            for far in (6, 7)]
    return span_of(*told), all(list(range(one[0], one[-1] + 1)) == one for one in told if one)


class Ranges(Case):
    def test_held(self):
        for span in ALL:
            for number in range(-5, 6):
                self.assertIs(span_holds(span, number), number in held(span, 9))
        for number, expected in ((FAR, True), (FAR + 1, False), (-FAR, True), (-FAR - 1, False)):
            self.assertIs(span_holds((-FAR, FAR), number), expected)
            self.assertIs(span_holds((None, FAR), number), number <= FAR)

    def test_how_many(self):
        for span in SMALL:
            self.alike(how_many_held(span), len(held(span, 0)))
        self.alike([how_many_held(span) for span in ((None, 3), (3, None), (None, None))], [None] * 3)
        self.alike(how_many_held((-FAR, FAR)), 2 * FAR + 1)
        self.alike(how_many_held((FAR, FAR)), 1)

    def test_within_joined_and_met(self):
        for one, other in itertools.product(ALL, ALL):
            self.assertIs(span_within(one, other), all(set(held(one, far)) <= set(held(other, far)) for far in (6, 7)))
            both = [sorted(set(held(one, far)) & set(held(other, far))) for far in (6, 7)]
            self.alike(span_met(one, other), span_of(*both))
            joined = span_joined(one, other)
            self.assertTrue(span_within(one, joined) and span_within(other, joined))
            either = [sorted(set(held(one, far)) | set(held(other, far))) for far in (6, 7)]
            self.alike(joined, span_of(*either))

    def test_plus_and_turned(self):
        for span, number in itertools.product(ALL, range(-2, 3)):
            expected, whole = by_numbers(lambda one: one + number, span)
            self.alike(span_plus(span, number), expected)
            turned, also = by_numbers(lambda one: number - one, span)
            self.alike(span_turned(span, number), turned)
            self.assertTrue(whole and also)

    def test_least_and_greatest(self):
        for one, other in itertools.product(ALL, ALL):
            least, whole = by_numbers(min, one, other)
            self.alike(span_least(one, other), least)
            greatest, also = by_numbers(max, one, other)
            self.alike(span_greatest(one, other), greatest)
            self.assertTrue(whole and also)

    def test_far_numbers(self):
        self.alike(span_plus((-FAR, FAR), FAR), (0, 2 * FAR))
        self.alike(span_turned((-FAR, None), -FAR), (None, 0))
        self.alike(span_least((None, FAR), (-FAR, None)), (None, FAR))
        self.alike(span_greatest((None, FAR), (-FAR, None)), (-FAR, None))
        self.alike(span_met((None, FAR), (FAR, None)), (FAR, FAR))
        self.alike(span_met((None, FAR - 1), (FAR, None)), None)
        self.alike(span_joined((FAR, FAR), (-FAR, -FAR)), (-FAR, FAR))
        self.assertIs(span_within((FAR, FAR), (1 - FAR, FAR)), True)
        self.assertIs(span_within((-FAR, FAR), (1 - FAR, FAR)), False)


PAIR = (["x", "y"], 3, [(0, 0), (0, 0)], [])


def states_in(row):
    return {tuple(numbers) for numbers in numbers_held(row)} if row is not None else set()


class Rows(Case):
    def test_rows_by_their_states(self):
        chance = dice(5)
        for _ in range(300):
            one, other = [[any_span(chance) for _ in range(2)] for _ in range(2)]
            self.assertIs(row_within(PAIR, one, other), states_in(one) <= states_in(other))
            self.assertEqual(states_in(row_met(PAIR, one, other)), states_in(one) & states_in(other))
            joined = row_joined(PAIR, one, other)
            self.assertTrue(row_within(PAIR, one, joined) and row_within(PAIR, other, joined))
            for at in range(2):
                self.alike(joined[at], span_joined(one[at], other[at]))

    def test_endless_rows(self):
        one, other = [(None, 3), (0, None)], [(-FAR, None), (None, FAR)]
        self.alike(row_joined(PAIR, one, other), [(None, None), (None, None)])
        self.alike(row_met(PAIR, one, other), [(-FAR, 3), (0, FAR)])
        self.assertIs(row_within(PAIR, one, one), True)
        self.assertIs(row_within(PAIR, one, other), False)
        self.alike(row_met(PAIR, [(None, 3), (0, 0)], [(4, None), (0, 0)]), None)
        self.alike(row_met(PAIR, [(0, 0), (None, 3)], [(0, 0), (4, None)]), None)

    def test_none_in_either_table(self):
        one, other = [(0, 2), (1, 1)], [(1, 5), (1, None)]
        apart = [(7, 7), (1, 1)]
        both, met = [(0, 5), (1, None)], [(1, 2), (1, 1)]
        cases = [(None, None, None, None, True), (one, None, one, None, False), (None, one, one, None, True),
                 (one, other, both, met, False), (one, one, one, one, True), (met, one, one, met, True),
                 (one, apart, [(0, 7), (1, 1)], None, False)]
        for first, second in itertools.product(cases, cases):
            tables = [[first[at], second[at], None] for at in range(4)]
            self.alike(table_joined(PAIR, tables[0], tables[1]), tables[2])
            self.alike(table_met(PAIR, tables[0], tables[1]), tables[3])
            self.assertIs(table_within(PAIR, tables[0], tables[1]), first[4] and second[4])

    def test_tables_of_one_row_are_not_shared(self):
        row = [(0, 1)]
        table = [row, row, None]
        for told in (table_joined(LOOP, table, [None] * 3), table_joined(LOOP, [None] * 3, table),
                     table_met(LOOP, table, table), table_joined(LOOP, table, table)):
            self.alike(told, [[(0, 1)], [(0, 1)], None])
            self.assertEqual(len({id(told[0]), id(told[1]), id(row)}), 3)
