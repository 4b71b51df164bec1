"""[4] and [6] The words, and what belongs to a program."""

import itertools

from stillranges import errors
from stillranges.kinds import (
    are_names, bounds_of, end_at, is_bound, is_deed, is_end, is_name, is_open, is_place, is_program, is_range, is_row,
    is_state, is_table, is_test, read_by, steps_into, steps_out, written_by)
from tests.helpers import ALL_DEEDS, BIG, FAR, FULL, LOOP, Case, any_program, dice

NAMES = ["x", "y", "z"]


class Words(Case):
    def told(self, expected, function, *rest, values):
        for value in values:
            self.assertIs(function(*rest, value), expected, value)

    def test_ends(self):
        self.told(True, is_end, values=[None, 0, -3, FAR, -FAR])
        self.told(False, is_end, values=[True, False, "", "0", [], (), [None], 1.0])

    def test_ranges(self):
        self.told(True, is_range, values=[
            (0, 0), (-2, 3), (None, 3), (3, None), (None, None), (-FAR, FAR), (FAR, FAR), (None, -FAR)])
        self.told(False, is_range, values=[
            (1, 0), (FAR, FAR - 1), [0, 1], (0,), (0, 1, 2), (), None, 0, (True, 1), (0, True), (False, None), ("", ""),
            ("0", "1"), ((0, 1), (2, 3)), (0, [1])])

    def test_names(self):
        self.told(True, is_name, values=[
            "a", "z", "abcdef", "x0", "x9", "x10", "x999", "abcdef999", "go", "least", "input", "none", "names"])
        self.told(False, is_name, values=[
            "", "abcdefg", "x00", "x01", "x012", "x1000", "1", "1x", "x1y", "X", "aB", "x ", " x", "x\n", "x1\n", "\n",
            "x-1", "x_", "x.", "`", "{", "x/", "x:", "a b", None, 1, True, ["x"], ("x",), {"x": 1}])

    def test_many_names(self):
        self.told(True, are_names, values=[["a"], ["a", "b"], ["a", "a1"], ["a10", "a2"], ["a1", "b", "c0"]])
        self.told(False, are_names, values=[
            [], ["b", "a"], ["a", "a"], ["a2", "a10"], ("a", "b"), "ab", ["a", None], [None], ["a", 1], ["A"], [["a"]],
            {"a": 1}, None, ["a", "b", "b"], ["a", "a0", "a"]])

    def test_deeds(self):
        self.told(True, is_deed, NAMES, values=ALL_DEEDS)
        self.told(True, is_deed, NAMES, values=[
            ("set", "x", FAR), ("input", "x", (None, None)), ("input", "x", (None, -FAR)), ("add", "x", "x", 0),
            ("turn", "y", "y", -FAR), ("least", "x", "x", "x"), ("below", "x", "y", FAR), ("equal", "z", "x", 0)])
        self.told(False, is_deed, NAMES, values=[
            (), ("go", 0), ["go"], "go", ("Go",), ("set", "x"), ("set", "x", None), ("set", "x", "1"), ("set", "x", True),
            ("set", "w", 1), ("set", 1, 1), ("set", ["x"], 1), ("add", "x", 1), ("add", "x", "y", "z"),
            ("add", "x", "y", False), ("add", "x", "w", 1), ("turn", "x", 3, "y"), ("turn", "x", "y"),
            ("input", "x", (3, 2)), ("input", "x", [0, 1]), ("input", "x", None), ("input", "x", 3),
            ("input", "x", (0, True)), ("least", "x", "y"), ("least", "x", "y", 3), ("greatest", "x", "y", "z", "x"),
            ("greatest", "x", "y", "w"), ("upto", "x", "y"), ("upto", "x", None), ("from", "x"), ("from", "x", 1, 2),
            ("below", "x", "x", 0), ("equal", "y", "y", 0), ("below", "x", "y"), ("below", "x", 1, "y"),
            ("equal", "x", "y", True), ("same", "x", "y", 1), ([], "x", 1), (None,), (("go",),), ({}, "x", 1)])
        self.assertIs(is_deed(["x"], ("add", "x", "y", 1)), False)

    def test_deeds_want_names(self):
        for names in ([], ["y", "x"], ["x", "x"], "x", None, ["x", 1]):
            self.refused(errors.InvalidName, names, is_deed, names, ("go",))


class Programs(Case):
    def test_programs(self):
        for program in (LOOP, FULL, BIG, (["a"], 1, [(None, None)], []), (["a"], 13, [(0, 0)], []),
                        (["a", "b", "c", "d", "e", "f"], 1, [(0, 0)] * 6, []), (["a"], FAR, [(0, 0)], []),
                        (["a"], 1, [(-FAR, FAR)], [(0, 0, ("go",))] * 31),
                        (["a"], FAR, [(0, 0)], [(FAR - 1, 0, ("go",))])):
            self.assertIs(is_program(program), True)

    def test_places(self):
        for value, expected in ((0, True), (2, True), (3, False), (-1, False), (True, False), (None, False),
                                ("0", False), (FAR, False)):
            self.assertIs(is_place(LOOP, value), expected)
        wide = (["a"], 13, [(0, 0)], [])
        self.assertEqual([is_place(wide, 12), is_place(wide, 13)], [True, False])

    def test_states(self):
        for value in ((0, [0]), (2, [-5]), (1, [FAR])):
            self.assertIs(is_state(LOOP, value), True)
        for value in ((3, [0]), (-1, [0]), (0, []), (0, [0, 0]), (0, (0,)), [0, [0]], (0, [None]), (0, [True]),
                      (False, [0]), (0, 0), (0, [0], 0), None, (0, ["0"]), (0, [[0]])):
            self.assertIs(is_state(LOOP, value), False)

    def test_rows_and_tables(self):
        for value in ([(0, 0)], [(None, None)], [(-FAR, FAR)], [(None, -FAR)]):
            self.assertIs(is_row(LOOP, value), True)
            self.assertIs(is_table(LOOP, [value, None, value]), True)
            self.assertIs(is_table(LOOP, [None, value, None]), True)
        for value in ([], [(0, 0), (0, 0)], ((0, 0),), [(1, 0)], [[0, 0]], [None], (0, 0), "", [(0, True)], [(0,)]):
            self.assertIs(is_row(LOOP, value), False)
            self.assertIs(is_table(LOOP, [value, None, None]), False)
            self.assertIs(is_table(LOOP, [None, None, value]), False)
        self.assertIs(is_row(LOOP, None), False)
        self.assertIs(is_table(LOOP, [None] * 3), True)
        for value in ([], [None] * 2, [None] * 4, (None, None, None), None, [[(0, 0)]], [(0, 0)] * 3):
            self.assertIs(is_table(LOOP, value), False)

    def test_bounds(self):
        for value in ((0, "i", "low"), (2, "i", "high")):
            self.assertIs(is_bound(LOOP, value), True)
        for value in ((3, "i", "low"), (0, "j", "low"), (0, "i", "middle"), (0, "i", ""), (0, "i", None), (0, "i"),
                      [0, "i", "low"], (True, "i", "low"), (0, 0, "low"), (0, ["i"], "low"), (0, "i", ["low"]),
                      ("low", "i", 0), (0, "i", "low", 0), None):
            self.assertIs(is_bound(LOOP, value), False)

    def test_open_steps(self):
        # The steps lead 0 to 1, 1 to 0, 0 to 2.
        ascending = [[0, 1, 2], [0, 1], [0, 2], [0], [2], []]
        for many in range(4):
            for value in itertools.product(range(-1, 4), repeat=many):
                self.assertIs(is_open(LOOP, list(value)), list(value) in ascending)
                self.assertIs(is_open(LOOP, value), False)
        for value in ([False], [0, True], [None], ["0"], [[0]], None, 0, {}):
            self.assertIs(is_open(LOOP, value), False)

    def test_open_steps_in_a_row_against_their_order(self):
        back = (["a"], 4, [(0, 0)], [(2, 3, ("go",)), (1, 2, ("go",)), (0, 1, ("go",)), (3, 3, ("go",))])
        for many in range(5):
            for chosen in itertools.combinations(range(4), many):
                expected = list(chosen) in ([], [2], [1, 2], [0, 1, 2], [0, 1, 2, 3])
                self.assertIs(is_open(back, list(chosen)), expected)

    def test_a_ring_off_the_way_is_not_open(self):
        ring = (["a"], 3, [(0, 0)], [(1, 2, ("go",)), (2, 1, ("go",)), (0, 0, ("go",)), (1, 1, ("go",))])
        self.assertEqual([is_open(ring, [0, 1]), is_open(ring, [2]), is_open(ring, [3]), is_open(ring, [0, 1, 2])],
                         [False, True, False, False])


class Parts(Case):
    def test_what_is_written(self):
        expected = [None, "x", "x", "y", "x", "z", "y", "z", "x", "x", "z", "y", "x", "z", None, None, None, None, None,
                    None]
        self.alike([written_by(FULL, step) for step in range(20)], expected)
        self.assertEqual(written_by((["x"], 1, [(0, 0)], [(0, 0, ("add", "x", "x", 0))]), 0), "x")

    def test_what_is_read(self):
        expected = [[], [], ["y"], ["y"], ["z"], ["z"], [], [], ["y", "z"], ["x", "z"], ["y"], ["x", "z"], ["x"],
                    ["y", "z"], ["x"], ["y"], ["x", "y"], ["x", "z"], ["y", "z"], ["x", "y"]]
        self.alike([read_by(FULL, step) for step in range(20)], expected)
        turned = (NAMES, 1, [(0, 0)] * 3, [(0, 0, ("least", "x", "z", "y")), (0, 0, ("below", "z", "x", 0))])
        self.alike([read_by(turned, 0), read_by(turned, 1)], [["y", "z"], ["x", "z"]])

    def test_tests(self):
        self.alike([is_test(FULL, step) for step in range(20)], [False] * 14 + [True] * 6)

    def test_steps(self):
        for seed in range(20):
            program = any_program(dice(seed), steps=8)
            for place in range(program[1]):
                into = [at for at in range(8) if program[3][at][1] == place]
                out = [at for at in range(8) if program[3][at][0] == place]
                self.alike([steps_into(program, place), steps_out(program, place)], [into, out])
        self.alike([steps_into(LOOP, 0), steps_out(LOOP, 0), steps_out(LOOP, 2)], [[1], [0, 2], []])

    def test_bounds_in_order(self):
        for program in (LOOP, FULL, BIG):
            bounds = bounds_of(program)
            self.assertEqual(bounds, sorted(bounds))
            self.assertEqual(len(bounds), program[1] * len(program[0]) * 2)
            self.assertTrue(all(is_bound(program, bound) for bound in bounds))

    def test_ends(self):
        table = [[(None, FAR), (-FAR, None)], None]
        told = [end_at(BIG, table, (0, name, side)) for name in ("a", "b1") for side in ("low", "high")]
        self.alike(told, [None, FAR, -FAR, None])
        bound = (1, "a", "low")
        self.refused(errors.InvalidBound, bound, end_at, BIG, table, bound)
