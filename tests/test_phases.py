"""[27] and [28] Options, sides, values and plans."""

import itertools

from stillranges import errors
from stillranges.kept import can_hold, comes_of, is_kept
from stillranges.kinds import bounds_of, end_at, is_open
from stillranges.phases import (
    are_kept_values, are_values, is_plan, option_worth, options_of, phase_bounds, sides_of, table_of_values,
    values_of_table)
from stillranges.ranges import row_within
from tests.helpers import ALL_DEEDS, FAR, LOOP, Case, any_program, any_span, dice

NAMES = ["x", "y", "z"]


def one_deed(deed):
    return (NAMES, 2, [(0, 1), (None, 2), (-3, None)], [(0, 1, deed)])


def high(name):
    return (0, name, "high")


def low(name):
    return (0, name, "low")


# For each deed and bound at its target what stands beside the bound itself at the same side (of a name not written),
# or all sides of each option (of the name that is written).
WRITTEN = {
    ("set", "x", -4): ([[(None, -4)]], [[(None, 4)]]),
    ("set", "x", FAR): ([[(None, FAR)]], [[(None, -FAR)]]),
    ("input", "x", (-2, 7)): ([[(None, 7)]], [[(None, 2)]]),
    ("input", "x", (None, 7)): ([[(None, 7)]], [[(None, None)]]),
    ("input", "x", (0, None)): ([[(None, None)]], [[(None, 0)]]),
    ("add", "x", "y", 3): ([[(high("y"), 3)]], [[(low("y"), -3)]]),
    ("add", "x", "x", -3): ([[(high("x"), -3)]], [[(low("x"), 3)]]),
    ("turn", "x", "y", 3): ([[(low("y"), 3)]], [[(high("y"), -3)]]),
    ("turn", "x", "x", -3): ([[(low("x"), -3)]], [[(high("x"), 3)]]),
    ("least", "x", "z", "y"): ([[(high("z"), 0), (high("y"), 0)]], [[(low("z"), 0)], [(low("y"), 0)]]),
    ("least", "x", "y", "y"): ([[(high("y"), 0), (high("y"), 0)]], [[(low("y"), 0)], [(low("y"), 0)]]),
    ("least", "x", "x", "y"): ([[(high("x"), 0), (high("y"), 0)]], [[(low("x"), 0)], [(low("y"), 0)]]),
    ("greatest", "x", "z", "y"): ([[(high("z"), 0)], [(high("y"), 0)]], [[(low("z"), 0), (low("y"), 0)]]),
    ("greatest", "x", "x", "x"): ([[(high("x"), 0)], [(high("x"), 0)]], [[(low("x"), 0), (low("x"), 0)]]),
}
CUT = {
    ("go",): {},
    ("upto", "x", 5): {("x", "high"): (None, 5)},
    ("upto", "x", -5): {("x", "high"): (None, -5)},
    ("from", "x", 5): {("x", "low"): (None, -5)},
    ("below", "x", "y", 3): {("x", "high"): (high("y"), 3), ("y", "low"): (low("x"), 3)},
    ("below", "z", "y", -3): {("z", "high"): (high("y"), -3), ("y", "low"): (low("z"), -3)},
    ("equal", "x", "y", 3): {("x", "high"): (high("y"), 3), ("x", "low"): (low("y"), -3),
                             ("y", "high"): (high("x"), -3), ("y", "low"): (low("x"), 3)},
    ("equal", "z", "x", -3): {("z", "high"): (high("x"), -3), ("z", "low"): (low("x"), 3),
                              ("x", "high"): (high("z"), 3), ("x", "low"): (low("z"), -3)},
}


class Sides(Case):
    def test_the_written_name(self):
        for deed, expected in WRITTEN.items():
            program = one_deed(deed)
            for side, sides in zip(("high", "low"), expected):
                bound = (1, "x", side)
                options = options_of(program, [0], bound)
                self.alike(options, [(0, pick) for pick in range(len(sides))])
                self.alike([sides_of(program, [0], bound, option) for option in options], sides)

    def test_all_other_names(self):
        for deed in WRITTEN:
            self.check_cuts(deed, {}, ("y", "z"))
        for deed, cuts in CUT.items():
            self.check_cuts(deed, cuts, NAMES)

    def check_cuts(self, deed, cuts, names):
        program = one_deed(deed)
        for name, side in itertools.product(names, ("high", "low")):
            bound = (1, name, side)
            self.alike(options_of(program, [0], bound), [(0, 0)])
            cut = [cuts[(name, side)]] if (name, side) in cuts else []
            self.alike(sides_of(program, [0], bound, (0, 0)), [((0, name, side), 0)] + cut)

    def test_the_start(self):
        program = one_deed(("go",))
        for bound, reach in ((high("x"), 1), (low("x"), 0), (high("y"), 2), (low("y"), None), (high("z"), None),
                             (low("z"), 3)):
            self.alike(options_of(program, [], bound), [(None, 0)])
            self.alike(sides_of(program, [0], bound, (None, 0)), [(None, reach)])

    def test_options_stand_in_order(self):
        steps = [(0, 0, ("greatest", "x", "x", "y")), (1, 0, ("go",)), (0, 1, ("go",)), (1, 0, ("least", "x", "y", "y")),
                 (1, 1, ("greatest", "x", "y", "z")), (0, 0, ("greatest", "y", "x", "x"))]
        program = (NAMES, 3, [(0, 0)] * 3, steps)
        opened = [0, 1, 2, 3, 4, 5]
        self.alike(options_of(program, opened, high("x")), [(None, 0), (0, 0), (0, 1), (1, 0), (3, 0), (5, 0)])
        self.alike(options_of(program, opened, low("x")), [(None, 0), (0, 0), (1, 0), (3, 0), (3, 1), (5, 0)])
        self.alike(options_of(program, opened, high("y")), [(None, 0), (0, 0), (1, 0), (3, 0), (5, 0), (5, 1)])
        self.alike(options_of(program, [0, 2, 5], high("x")), [(None, 0), (0, 0), (0, 1), (5, 0)])
        self.alike(options_of(program, opened, (1, "x", "high")), [(2, 0), (4, 0), (4, 1)])
        self.alike(sides_of(program, opened, (1, "x", "high"), (4, 1)), [((1, "z", "high"), 0)])

    def test_bounds_come_to(self):
        self.alike(phase_bounds(LOOP, [0, 1, 2]), bounds_of(LOOP))
        self.alike(phase_bounds(LOOP, [2]), [(0, "i", "high"), (0, "i", "low"), (2, "i", "high"), (2, "i", "low")])
        chance = dice(1)
        for _ in range(100):
            program = any_program(chance, places=4, steps=5)
            opened = sorted(chance.sample(range(5), chance.randint(0, 5)))
            if is_open(program, opened):
                come = {0} | {program[3][step][1] for step in opened}
                self.alike(phase_bounds(program, opened), [bound for bound in bounds_of(program) if bound[0] in come])

    def test_bounds_that_are_not_come_to(self):
        for bound in ((1, "i", "high"), (2, "i", "low")):
            self.refused(errors.InvalidBound, bound, options_of, LOOP, [], bound)
            self.refused(errors.InvalidBound, bound, sides_of, LOOP, [], bound, (0, 0))
            self.refused(errors.InvalidBound, bound, option_worth, LOOP, [], bound, (0, 0), [0, 0])
        bound = (1, "i", "high")
        self.alike(options_of(LOOP, [0], bound), [(0, 0)])
        self.refused(errors.InvalidBound, bound, options_of, LOOP, [2], bound)

    def test_bent_options(self):
        for option in ((1, 1), (1, 0, 0), (1,), [1, 0], (True, 0), (1, False), (None, False), (None, None), (0, 0),
                       (2, 0), (3, 0), (-2, 0), ("1", 0), None, (None, 1), ([1], 0), (1, [0])):
            self.refused(errors.InvalidPlan, option, sides_of, LOOP, [0, 1], (0, "i", "high"), option)
            self.refused(errors.InvalidPlan, option, option_worth, LOOP, [0, 1], (0, "i", "high"), option, [0] * 4)
        option = (1, 0)
        self.refused(errors.InvalidPlan, option, sides_of, LOOP, [0], (0, "i", "high"), option)


class Values(Case):
    def test_worths(self):
        bound = (1, "i", "high")
        for values, worth in (([3, 0, 0, 0], 3), ([9, 0, 0, 0], 9), ([10, 0, 0, 0], 9), ([None, 0, 0, 0], 9),
                              ([-FAR, 0, 0, 0], -FAR)):
            self.alike(option_worth(LOOP, [0, 1], bound, (0, 0), values), worth)
        for values, worth in (([0, 0, FAR, 0], FAR + 1), ([0, 0, None, 0], None), ([0, 0, -5, 0], -4)):
            self.alike(option_worth(LOOP, [0, 1], (0, "i", "high"), (1, 0), values), worth)
            self.alike(option_worth(LOOP, [0, 1], (0, "i", "high"), (None, 0), values), 0)
        two = (["a", "b"], 1, [(0, 1), (None, 5)], [(0, 0, ("least", "a", "a", "b")), (0, 0, ("below", "a", "b", 3))])
        worths = [option_worth(two, [0, 1], (0, "a", "high"), (0, 0), [one, 0, other, 0])
                  for one, other in ((1, 2), (2, 1), (None, 1), (1, None), (None, None))]
        self.alike(worths, [1, 1, 1, 1, None])
        worths = [option_worth(two, [0, 1], (0, "b", "low"), (1, 0), [0, one, 0, other])
                  for one, other in ((1, 2), (-1, 9), (None, 9), (1, None), (None, None))]
        self.alike(worths, [2, 2, 9, 4, None])
        self.alike(option_worth(two, [], (0, "b", "low"), (None, 0), [0, 0, 0, 0]), None)

    def test_what_are_values(self):
        for value in ([0] * 4, [None] * 4, [FAR, -FAR, None, 0], [-1, 0, 0, -1]):
            self.assertIs(are_values(LOOP, [0, 1], value), True)
        for value in ([0] * 3, [0] * 5, [], (0, 0, 0, 0), [0, 0, 0, True], [0, 0, 0, "0"], [0, 0, 0, [0]], None,
                      [(0, 0)] * 4, {}, [0, 0, 0, 1.0]):
            self.assertIs(are_values(LOOP, [0, 1], value), False)
            self.assertIs(are_kept_values(LOOP, [0, 1], value), False)
            self.refused(errors.InvalidTable, value, table_of_values, LOOP, [0, 1], value)
            self.refused(errors.InvalidTable, value, option_worth, LOOP, [0, 1], (0, "i", "high"), (1, 0), value)
        self.assertIs(are_values(LOOP, [], [0, 0]), True)
        self.assertIs(are_values(LOOP, [], [0] * 4), False)

    def test_kept_values_bent_at_each_part(self):
        for values in ([10, 0, 9, 0, 10, -10], [12, 0, 9, 0, 12, -10], [None, 0, 9, 0, None, -10], [None] * 6,
                       [10, None, 9, None, 10, -10], [10, 0, 9, 0, 11, 3]):
            self.assertIs(are_kept_values(LOOP, [0, 1, 2], values), True, values)
        for at in range(6):
            values = [10, 0, 9, 0, 10, -10]
            values[at] -= 1
            self.assertIs(are_kept_values(LOOP, [0, 1, 2], values), False, values)
        self.assertIs(are_kept_values(LOOP, [0, 1, 2], [10, None, 9, 0, 10, -10]), False)
        self.assertIs(are_kept_values(LOOP, [0, 1, 2], [10, None, 9, None, 10, -11]), False)
        self.assertIs(are_kept_values(LOOP, [0, 1, 2], [10, 0, None, 0, 10, -10]), False)
        self.assertIs(are_kept_values(LOOP, [0, 1, 2], [10, 0, 9, None, 10, -10]), False)
        self.assertIs(are_kept_values(LOOP, [0, 1, 2], [None, 0, 9, 0, 10, -10]), False)

    def test_tables_and_values(self):
        table = [[(0, 10)], [(None, 9)], [(-FAR, None)]]
        self.alike(values_of_table(LOOP, [0, 1, 2], table), [10, 0, 9, None, None, FAR])
        self.alike(table_of_values(LOOP, [0, 1, 2], [10, 0, 9, None, None, FAR]), table)
        self.alike(values_of_table(LOOP, [2], table), [10, 0, None, FAR])
        self.alike(table_of_values(LOOP, [2], [10, 0, None, FAR]), [[(0, 10)], None, [(-FAR, None)]])
        self.alike(values_of_table(LOOP, [], [[(-2, 3)], None, None]), [3, 2])
        self.alike(values_of_table(LOOP, [], table), [10, 0])
        for opened, table in (([], [None, [(0, 0)], [(0, 0)]]), ([0], [[(0, 0)], None, [(0, 0)]]), ([2], [[(0, 0)]] * 2 + [
                None]), ([0, 2], [[(0, 0)]] * 2 + [None])):
            self.refused(errors.InvalidTable, table, values_of_table, LOOP, opened, table)

    def test_no_table_of_values(self):
        self.alike(table_of_values(LOOP, [], [3, -3]), [[(3, 3)], None, None])
        self.assertIsNone(table_of_values(LOOP, [], [3, -4]))
        self.assertIsNone(table_of_values(LOOP, [0], [0, 0, -FAR, FAR - 1]))
        self.assertIsNone(table_of_values(LOOP, [0], [-1, 0, 0, 0]))
        self.alike(table_of_values(LOOP, [0], [0, 0, -FAR, FAR]), [[(0, 0)], [(-FAR, -FAR)], None])
        self.alike(table_of_values(LOOP, [], [-FAR, None]), [[(None, -FAR)], None, None])
        self.alike(table_of_values(LOOP, [], [None, -FAR]), [[(FAR, None)], None, None])

    def test_options_tell_what_comes(self):
        """The widest option by a step is the end of what comes, at each row at which the step can hold."""
        chance = dice(6)
        for deed in ALL_DEEDS:
            program = one_deed(deed)
            for _ in range(40):
                row = [any_span(chance, -4, 4, 0.2) for _ in NAMES]
                if not can_hold(program, deed, row):
                    continue
                come = [None, comes_of(program, deed, row)]
                values = values_of_table(program, [0], [row, row])
                for name, side in itertools.product(NAMES, ("high", "low")):
                    worths = [option_worth(program, [0], (1, name, side), option, values)
                              for option in options_of(program, [0], (1, name, side))]
                    end = end_at(program, come, (1, name, side))
                    reach = end if side == "high" or end is None else -end
                    self.alike(None if None in worths else max(worths), reach)

    def test_kept_values_are_kept_tables(self):
        """Of a table with rows at just the places come to, at which all open steps can hold."""
        chance = dice(12)
        told = []
        while len(told) < 200:
            program = any_program(chance, places=3, steps=3, endless=0.3)
            opened = sorted(chance.sample(range(3), chance.randint(0, 3)))
            if not is_open(program, opened):
                continue
            bounds = phase_bounds(program, opened)
            table = [[any_span(chance, -3, 3, 0.6) for _ in program[0]] if any(bound[0] == place for bound in bounds)
                     else None for place in range(3)]
            if not all(can_hold(program, program[3][step][2], table[program[3][step][0]]) for step in opened):
                continue
            leads = all(row_within(program, comes_of(program, deed, table[source]), table[target])
                        for source, target, deed in [program[3][step] for step in opened])
            expected = leads and row_within(program, program[2], table[0])
            values = values_of_table(program, opened, table)
            self.assertIs(are_kept_values(program, opened, values), expected)
            self.assertIs(is_kept(program[:3] + ([program[3][step] for step in opened],), table), expected)
            self.alike(table_of_values(program, opened, values), table)
            told.append(expected)
        self.assertGreater(told.count(True), 20)
        self.assertGreater(told.count(False), 20)


class Plans(Case):
    def test_plans_bent_at_each_part(self):
        for first, second in itertools.product([(None, 0), (1, 0)], repeat=2):
            plan = [first, second, (0, 0), (0, 0)]
            self.assertIs(is_plan(LOOP, [0, 1], plan), True)
            for at in range(4):
                self.assertIs(is_plan(LOOP, [0, 1], plan[:at] + plan[at + 1:]), False)
                self.assertIs(is_plan(LOOP, [0, 1], plan[:at] + [plan[at]] + plan[at:]), False)
                for option in (None, (2, 0), (1, 1), [1, 0], (True, 0), (1, False), (None, 1), (1, 0, 0), ("1", 0),
                               (0, 1), (False, 0), (None, None), ([0], 0)):
                    self.assertIs(is_plan(LOOP, [0, 1], plan[:at] + [option] + plan[at + 1:]), False)
            self.assertIs(is_plan(LOOP, [0, 1], tuple(plan)), False)
            self.assertIs(is_plan(LOOP, [0, 1], [list(option) for option in plan]), False)
        self.assertIs(is_plan(LOOP, [0], [(None, 0), (None, 0), (0, 0), (0, 0)]), True)
        self.assertIs(is_plan(LOOP, [0], [(1, 0), (None, 0), (0, 0), (0, 0)]), False)
        self.assertIs(is_plan(LOOP, [], [(None, 0), (None, 0)]), True)

    def test_picks(self):
        two = (["a", "b"], 1, [(0, 1), (None, 5)], [(0, 0, ("greatest", "a", "a", "b"))])
        for at, expected in ((0, True), (1, False), (2, False), (3, False)):
            plan = [(None, 0)] * 4
            plan[at] = (0, 1)
            self.assertIs(is_plan(two, [0], plan), expected)
            plan[at] = (0, 0)
            self.assertIs(is_plan(two, [0], plan), True)
