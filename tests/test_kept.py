"""[17] to [20] What comes, causes, steps, and kept tables."""

import itertools

from stillranges.kept import (
    can_hold, cause_of, comes_by, comes_of, holding_at, holds_start, is_cause, is_kept, led_by, not_kept)
from stillranges.ranges import row_joined, row_within, table_joined, table_met, table_within
from stillranges.running import all_reached, can_go, holds_state, shortest_leaving, state_behind
from stillranges import errors
from tests.helpers import ALL_DEEDS, FAR, LOOP, Case, any_deed, any_program, any_span, dice, numbers_held

NAMES = ["x", "y", "z"]
PROGRAM = (NAMES, 2, [(0, 0)] * 3, [])


def outcomes(deed, row):
    """All pairs of numbers that a row holds and that pass a deed, and of numbers behind it."""
    program = PROGRAM[:3] + ([(0, 1, deed)],)
    told = range(deed[2][0], deed[2][1] + 1) if deed[0] == "input" else [None]
    return [(numbers, state_behind(program, (0, numbers), (0, number))[1])
            for numbers in numbers_held(row) for number in told if can_go(program, (0, numbers), (0, number))]


def hull(rows):
    return [(min(numbers), max(numbers)) for numbers in zip(*rows)] if rows else None


def closed(span, far):
    """A range with its endless ends put so far away."""
    return (-far if span[0] is None else span[0], far if span[1] is None else span[1])


def closed_deed(deed, far):
    return deed[:2] + (closed(deed[2], far),) if deed[0] == "input" else deed


class WhatComes(Case):
    def rows(self, chance, many, endless):
        for _ in range(many):
            yield [any_span(chance, -2, 2, endless) for _ in NAMES]

    def test_held_against_all_numbers(self):
        chance = dice(1)
        for deed in ALL_DEEDS:
            for row in self.rows(chance, 20, 0):
                self.check(deed, row)
        for _ in range(300):
            for row in self.rows(chance, 1, 0):
                self.check(any_deed(chance, NAMES), row)

    def check(self, deed, row):
        pairs = outcomes(deed, row)
        come = comes_of(PROGRAM, deed, row)
        self.assertIs(can_hold(PROGRAM, deed, row), bool(pairs))
        self.alike(come, hull([behind for _, behind in pairs]))
        for at, name in enumerate(NAMES):
            reached = {behind[at] for _, behind in pairs}
            for number in range(-7, 8):
                cause = cause_of(PROGRAM, deed, row, name, number)
                self.assertEqual(cause is not None, number in reached)
                causes = [ahead for ahead, behind in pairs if behind[at] == number]
                if cause is not None:
                    self.assertIn(cause, causes)
                    self.assertIs(is_cause(PROGRAM, deed, row, name, number, cause), True)
                    self.assertIs(is_cause(PROGRAM, deed, row, name, number, tuple(cause)), False)

    def test_any_cause_held_against_all_numbers(self):
        chance = dice(2)
        for deed in ALL_DEEDS:
            row = [any_span(chance, -1, 1) for _ in NAMES]
            pairs = outcomes(deed, row)
            for at, name in enumerate(NAMES):
                for number in range(-3, 4):
                    causes = [ahead for ahead, behind in pairs if behind[at] == number]
                    for value in itertools.product(range(-2, 3), repeat=3):
                        told = is_cause(PROGRAM, deed, row, name, number, list(value))
                        self.assertIs(told, list(value) in causes)

    def test_endless_ends(self):
        chance = dice(4)
        for deed in ALL_DEEDS + [any_deed(chance, NAMES, endless=0.5) for _ in range(60)]:
            for row in self.rows(chance, 4, 0.5):
                told = [hull([behind for _, behind in outcomes(closed_deed(deed, far), [closed(span, far) for span in row])])
                        for far in (7, 8)]
                come = comes_of(PROGRAM, deed, row)
                self.assertIs(can_hold(PROGRAM, deed, row), told[0] is not None)
                if told[0] is None:
                    self.assertIsNone(come)
                    continue
                self.alike(come, [(None if one[0] != other[0] else one[0], None if one[1] != other[1] else one[1])
                                  for one, other in zip(*told)])
                for name, (low, high) in zip(NAMES, come):
                    for number in {-FAR, -9, -1, 0, 1, 9, FAR, low, high} - {None}:
                        held = (low is None or low <= number) and (high is None or number <= high)
                        cause = cause_of(PROGRAM, deed, row, name, number)
                        self.assertEqual(cause is not None, held)
                        if held:
                            self.assertIs(is_cause(PROGRAM, deed, row, name, number, cause), True)
                            self.assertIs(row_within(PROGRAM, [(one, one) for one in cause], row), True)

    def test_each_kind_of_deed(self):
        row = [(0, 4), (-2, None), (None, FAR)]
        for deed, come in [
                (("go",), row), (("set", "y", 7), [(0, 4), (7, 7), (None, FAR)]),
                (("add", "x", "y", 3), [(1, None), (-2, None), (None, FAR)]),
                (("add", "x", "x", -1), [(-1, 3), (-2, None), (None, FAR)]),
                (("turn", "x", "z", FAR), [(0, None), (-2, None), (None, FAR)]),
                (("turn", "y", "y", 1), [(0, 4), (None, 3), (None, FAR)]),
                (("input", "x", (None, 3)), [(None, 3), (-2, None), (None, FAR)]),
                (("least", "x", "y", "z"), [(None, FAR), (-2, None), (None, FAR)]),
                (("greatest", "x", "y", "z"), [(-2, None), (-2, None), (None, FAR)]),
                (("greatest", "z", "x", "z"), [(0, 4), (-2, None), (0, FAR)]),
                (("upto", "y", -2), [(0, 4), (-2, -2), (None, FAR)]), (("upto", "y", -3), None),
                (("from", "z", FAR), [(0, 4), (-2, None), (FAR, FAR)]), (("from", "z", FAR + 1), None),
                (("below", "x", "y", 0), [(0, 4), (0, None), (None, FAR)]),
                (("below", "y", "x", 0), [(0, 4), (-2, 4), (None, FAR)]),
                (("below", "y", "x", -7), None), (("below", "y", "x", -6), [(4, 4), (-2, -2), (None, FAR)]),
                (("equal", "z", "y", -FAR), [(0, 4), (-2, 2 * FAR), (-2 - FAR, FAR)]),
                (("equal", "x", "y", 6), [(4, 4), (-2, -2), (None, FAR)]), (("equal", "x", "y", 7), None)]:
            self.alike(comes_of(PROGRAM, deed, row), come)
            self.assertIs(can_hold(PROGRAM, deed, row), come is not None)

    def test_an_input_may_bring_any_number(self):
        row = [(0, 0), (1, 1), (2, 2)]
        deed = ("input", "x", (3, None))
        self.assertIs(is_cause(PROGRAM, deed, row, "x", FAR, [0, 1, 2]), True)
        self.assertIs(is_cause(PROGRAM, deed, row, "x", 2, [0, 1, 2]), False)
        self.assertIs(is_cause(PROGRAM, deed, row, "y", 1, [0, 1, 2]), True)
        self.assertIs(is_cause(PROGRAM, deed, row, "y", 2, [0, 1, 2]), False)
        self.alike(cause_of(PROGRAM, deed, row, "x", 3), [0, 1, 2])
        for value in ([0, 1], [0, 1, 2, 3], (0, 1, 2), [False, 1, 2], [0, 1, None], [1, 1, 2], None, "012", [[0], 1, 2]):
            self.assertIs(is_cause(PROGRAM, deed, row, "x", 3, value), False)


def any_table(chance, program, endless=0.2, none=0.3):
    return [None if chance.random() < none else [any_span(chance, -2, 2, endless) for _ in program[0]]
            for _ in range(program[1])]


class Kept(Case):
    def test_by_steps(self):
        chance = dice(8)
        for _ in range(300):
            program = any_program(chance, names=2, places=3, steps=5, endless=0.2)
            table = any_table(chance, program)
            come = [None if table[source] is None else comes_of(program, deed, table[source])
                    for source, _, deed in program[3]]
            self.alike([comes_by(program, step, table) for step in range(5)], come)
            self.alike(holding_at(program, table), [step for step in range(5) if come[step] is not None])
            led = [None] * 3
            led[0] = program[2]
            for step in range(5):
                target = program[3][step][1]
                if come[step] is not None:
                    led[target] = come[step] if led[target] is None else row_joined(program, led[target], come[step])
            self.alike(led_by(program, table), led)
            start = table[0] is not None and row_within(program, program[2], table[0])
            self.assertIs(holds_start(program, table), start)
            amiss = [step for step in range(5) if come[step] is not None and (
                table[program[3][step][1]] is None or not row_within(program, come[step], table[program[3][step][1]]))]
            self.alike(not_kept(program, table), amiss)
            # Both ways that the document names.
            self.assertIs(is_kept(program, table), start and not amiss)
            self.assertIs(is_kept(program, table), table_within(program, led, table))

    def test_led_tables_grow_with_their_tables(self):
        chance = dice(9)
        for _ in range(150):
            program = any_program(chance, endless=0.2)
            one, other = any_table(chance, program), any_table(chance, program)
            both = table_joined(program, one, other)
            self.assertIs(table_within(program, led_by(program, one), led_by(program, both)), True)

    def kept_above(self, program, table):
        """A kept table within which a table lies: by going round, with all that still grows made endless."""
        for turn in range(40):
            grown = table_joined(program, table, led_by(program, table))
            if grown == table:
                break
            table = grown if turn < 6 else [row if row == old or old is None else [
                (low if low == before[0] else None, high if high == before[1] else None)
                for (low, high), before in zip(row, old)] for row, old in zip(grown, table)]
        return table

    def test_kept_tables(self):
        chance = dice(10)
        for _ in range(120):
            program = any_program(chance, endless=0.1)
            one, other = [self.kept_above(program, any_table(chance, program)) for _ in range(2)]
            for table in (one, other, table_met(program, one, other), led_by(program, one)):
                self.assertIs(is_kept(program, table), True)
                self.alike(not_kept(program, table), [])
                try:
                    self.assertIsNone(shortest_leaving(program, table))
                    self.assertTrue(all(holds_state(program, table, state) for state in all_reached(program)))
                except errors.TooMany:
                    pass

    def test_joined_kept_tables_need_not_be_kept(self):
        then = (["x", "y"], 2, [(0, 0), (0, 0)], [(0, 1, ("below", "y", "x", -4))])
        wide, high = [[(0, 3), (0, 0)], None], [[(0, 0), (-3, 0)], None]
        self.assertIs(is_kept(then, wide), True)
        self.assertIs(is_kept(then, high), True)
        self.assertIs(is_kept(then, table_joined(then, wide, high)), False)
        self.assertIs(is_kept(then, table_met(then, wide, high)), True)

    def test_none_at_each_place(self):
        step = (["x"], 3, [(0, 1)], [(1, 2, ("add", "x", "x", 1)), (0, 1, ("from", "x", 1))])
        self.alike(led_by(step, [None] * 3), [[(0, 1)], None, None])
        self.alike([holds_start(step, [None] * 3), is_kept(step, [None] * 3), not_kept(step, [None] * 3)],
                   [False, False, []])
        self.alike(holding_at(step, [None, [(0, 0)], None]), [0])
        self.alike(comes_by(step, 0, [[(0, 0)], None, None]), None)
        self.alike(comes_by(step, 1, [[(0, 0)], None, None]), None)
        self.alike(comes_by(step, 1, [[(0, 3)], None, None]), [(1, 3)])
        self.alike(not_kept(step, [[(0, 1)], None, None]), [1])
        self.alike(not_kept(step, [[(0, 1)], [(1, 1)], None]), [0])
        self.alike(not_kept(step, [[(0, 1)], [(1, 1)], [(3, 3)]]), [0])
        self.alike(not_kept(step, [[(0, 1)], [(1, 1)], [(2, 2)]]), [])
        self.assertIs(is_kept(step, [[(0, 1)], [(1, 1)], [(2, 2)]]), True)
        self.assertIs(is_kept(step, [[(0, 0)], None, None]), False)
        self.assertIs(is_kept(step, [[(0, None)], [(None, None)], [(None, None)]]), True)
        self.assertIs(is_kept(step, [None, [(1, 1)], [(2, 2)]]), False)

    def test_far_numbers(self):
        far = (["i"], 3, [(0, 0)], [(0, 1, ("upto", "i", FAR)), (1, 0, ("add", "i", "i", 1)), (0, 2, ("from", "i", FAR))])
        self.assertIs(is_kept(far, [[(0, FAR + 1)], [(0, FAR)], [(FAR, FAR + 1)]]), True)
        self.alike(not_kept(far, [[(0, FAR)], [(0, FAR)], [(FAR, FAR)]]), [1])
        self.alike(led_by(LOOP, [[(None, None)], [(None, FAR)], None]), [[(None, FAR + 1)], [(None, 9)], [(10, None)]])
