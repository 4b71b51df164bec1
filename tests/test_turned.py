"""[24] to [26] Programs scaled, moved, mirrored, renamed and in another order."""

import itertools
import time

from stillranges import errors
from stillranges.kinds import is_program, is_table
from stillranges.least import least_table
from stillranges.turned import (
    mirrored, mirrored_table, moved, moved_table, scaled, scaled_table, with_names, with_names_table, with_places,
    with_places_table, with_steps)
from tests.helpers import ALL_DEEDS, FAR, FULL, LOOP, Case, any_program, dice
from tests.test_least import any_great

# For each deed what it is scaled by 3, moved by 10, mirrored.
DEEDS = {
    ("go",): (("go",), ("go",), ("go",)),
    ("set", "x", -4): (("set", "x", -12), ("set", "x", 6), ("set", "x", 4)),
    ("add", "x", "y", 2): (("add", "x", "y", 6), ("add", "x", "y", 2), ("add", "x", "y", -2)),
    ("turn", "x", "y", 5): (("turn", "x", "y", 15), ("turn", "x", "y", 25), ("turn", "x", "y", -5)),
    ("turn", "y", "y", 0): (("turn", "y", "y", 0), ("turn", "y", "y", 20), ("turn", "y", "y", 0)),
    ("input", "x", (-1, 4)): (("input", "x", (-3, 12)), ("input", "x", (9, 14)), ("input", "x", (-4, 1))),
    ("input", "y", (None, 4)): (("input", "y", (None, 12)), ("input", "y", (None, 14)), ("input", "y", (-4, None))),
    ("input", "y", (2, None)): (("input", "y", (6, None)), ("input", "y", (12, None)), ("input", "y", (None, -2))),
    ("input", "y", (None, None)): (("input", "y", (None, None)),) * 3,
    ("least", "x", "y", "x"): (("least", "x", "y", "x"), ("least", "x", "y", "x"), ("greatest", "x", "y", "x")),
    ("greatest", "x", "y", "x"): (("greatest", "x", "y", "x"), ("greatest", "x", "y", "x"), ("least", "x", "y", "x")),
    ("upto", "x", 7): (("upto", "x", 21), ("upto", "x", 17), ("from", "x", -7)),
    ("from", "y", -7): (("from", "y", -21), ("from", "y", 3), ("upto", "y", 7)),
    ("below", "x", "y", -1): (("below", "x", "y", -3), ("below", "x", "y", -1), ("below", "y", "x", -1)),
    ("equal", "x", "y", 6): (("equal", "x", "y", 18), ("equal", "x", "y", 6), ("equal", "x", "y", -6)),
}
TABLE = [[(0, 3), (None, -1)], None]


def some_programs(seed, many):
    chance = dice(seed)
    for _ in range(many):
        yield any_program(chance, names=chance.randint(1, 3), places=chance.randint(1, 4),
                          steps=chance.randint(0, 8), endless=chance.choice([0, 0.2]))


class Deeds(Case):
    def test_each_deed(self):
        for deed, (by_three, by_ten, about) in DEEDS.items():
            program = (["x", "y"], 2, [(-1, 2), (None, 5)], [(0, 1, deed), (1, 1, ("go",))])
            for told, start, behind in (
                    (scaled(program, 3), [(-3, 6), (None, 15)], by_three), (moved(program, 10), [(9, 12), (None, 15)], by_ten),
                    (mirrored(program), [(-2, 1), (-5, None)], about)):
                self.alike(told, (["x", "y"], 2, start, [(0, 1, behind), (1, 1, ("go",))]))

    def test_tables(self):
        program = (["x", "y"], 2, [(0, 0), (0, 0)], [])
        self.alike(scaled_table(program, TABLE, 4), [[(0, 12), (None, -4)], None])
        self.alike(scaled_table(program, TABLE, 1), TABLE)
        self.alike(moved_table(program, TABLE, -4), [[(-4, -1), (None, -5)], None])
        self.alike(moved_table(program, TABLE, 0), TABLE)
        self.alike(mirrored_table(program, TABLE), [[(-3, 0), (1, None)], None])
        self.alike(scaled_table(program, [None, [(-FAR, FAR), (None, None)]], FAR), [None, [(-FAR * FAR, FAR * FAR), (None, None)]])

    def test_by_nothing(self):
        for program in (FULL, LOOP):
            self.alike(scaled(program, 1), program)
            self.alike(moved(program, 0), program)

    def test_mirrored_twice(self):
        for program in [FULL, LOOP] + list(some_programs(51, 200)):
            self.alike(mirrored(mirrored(program)), program)
            least = least_table(program)
            self.alike(mirrored_table(program, mirrored_table(program, least)), least)

    def test_there_and_back(self):
        for program in some_programs(52, 100):
            self.alike(moved(moved(program, FAR), -FAR), program)
            self.alike(scaled(scaled(program, 3), 5), scaled(program, 15))

    def test_numbers(self):
        for factor in (0, -1, -FAR, True, None, "2", [2], (1,)):
            self.refused(errors.InvalidNumber, factor, scaled, LOOP, factor)
            self.refused(errors.InvalidNumber, factor, scaled_table, LOOP, [None] * 3, factor)
        for number in (True, None, "2", [2], (1,)):
            self.refused(errors.InvalidNumber, number, moved, LOOP, number)
            self.refused(errors.InvalidNumber, number, moved_table, LOOP, [None] * 3, number)
        self.alike(moved(LOOP, -FAR)[2], [(-FAR, -FAR)])
        table = [None]
        self.refused(errors.InvalidTable, table, scaled_table, LOOP, table, 0)


class LeastTables(Case):
    def test_scaled_moved_mirrored(self):
        for program in some_programs(53, 300):
            least = least_table(program)
            for factor in (1, 2, 7, FAR):
                self.alike(least_table(scaled(program, factor)), scaled_table(program, least, factor))
            for number in (0, 1, -5, FAR, -FAR):
                self.alike(least_table(moved(program, number)), moved_table(program, least, number))
            self.alike(least_table(mirrored(program)), mirrored_table(program, least))

    def test_each_deed_in_a_loop(self):
        for deed in ALL_DEEDS:
            program = (["x", "y", "z"], 2, [(0, 2), (-1, 0), (3, 3)], [(0, 1, deed), (1, 0, ("add", "y", "x", 1)), (
                0, 0, ("least", "x", "x", "y")), (1, 1, ("upto", "z", 7))])
            least = least_table(program)
            self.alike(least_table(scaled(program, 6)), scaled_table(program, least, 6))
            self.alike(least_table(moved(program, -8)), moved_table(program, least, -8))
            self.alike(least_table(mirrored(program)), mirrored_table(program, least))

    def test_renamed(self):
        chance = dice(54)
        for program in some_programs(55, 300):
            least = least_table(program)
            places = [0] + chance.sample(range(1, program[1]), program[1] - 1)
            new = with_places(program, places)
            self.assertIs(is_program(new), True)
            self.alike(least_table(new), with_places_table(program, least, places))
            for place, row in enumerate(least):
                self.alike(with_places_table(program, least, places)[places[place]], row)
            names = chance.sample(["a", "b", "c", "zz", "q9", "m10"], len(program[0]))
            new = with_names(program, names)
            self.assertIs(is_program(new), True)
            self.alike(new[0], sorted(names))
            self.assertIs(is_table(new, with_names_table(program, least, names)), True)
            self.alike(least_table(new), with_names_table(program, least, names))
            order = chance.sample(range(len(program[3])), len(program[3]))
            new = with_steps(program, order)
            self.alike(new, program[:3] + ([program[3][number] for number in order],))
            self.alike(least_table(new), least)

    def test_within_seconds_up_to_the_limits(self):
        chance = dice(56)
        began = time.perf_counter()
        for top in (3, FAR, FAR):
            program = any_great(chance, top)
            least = least_table(program)
            self.alike(least_table(scaled(program, FAR)), scaled_table(program, least, FAR))
            self.alike(least_table(moved(program, -FAR)), moved_table(program, least, -FAR))
            self.alike(least_table(mirrored(program)), mirrored_table(program, least))
        self.assertLess(time.perf_counter() - began, 20)


class Renamed(Case):
    program = (["a", "b", "c"], 3, [(0, 1), (2, 3), (4, None)], [
        (0, 1, ("least", "a", "b", "c")), (1, 2, ("below", "c", "a", 4)), (2, 0, ("input", "b", (1, 2)))])
    table = [[(0, 0), (1, 1), (2, 2)], None, [(3, 3), (4, 4), (5, 5)]]

    def test_places(self):
        self.alike(with_places(self.program, [0, 2, 1]), (["a", "b", "c"], 3, [(0, 1), (2, 3), (4, None)], [
            (0, 2, ("least", "a", "b", "c")), (2, 1, ("below", "c", "a", 4)), (1, 0, ("input", "b", (1, 2)))]))
        self.alike(with_places_table(self.program, self.table, [0, 2, 1]), [self.table[0], self.table[2], None])
        four = (["x"], 4, [(0, 0)], [(1, 2, ("go",)), (3, 3, ("go",))])
        self.alike(with_places(four, [0, 2, 3, 1])[3], [(2, 3, ("go",)), (1, 1, ("go",))])
        rows = [[(place, place)] for place in range(4)]
        self.alike(with_places_table(four, rows, [0, 2, 3, 1]), [rows[0], rows[3], rows[1], rows[2]])
        self.alike(with_places((["x"], 1, [(0, 0)], []), [0]), (["x"], 1, [(0, 0)], []))

    def test_names(self):
        for names in itertools.permutations(["p", "q", "r"]):
            a, b, c = names
            spans = {a: (0, 1), b: (2, 3), c: (4, None)}
            new = with_names(self.program, list(names))
            self.alike(new, (["p", "q", "r"], 3, [spans["p"], spans["q"], spans["r"]], [
                (0, 1, ("least", a, b, c)), (1, 2, ("below", c, a, 4)), (2, 0, ("input", b, (1, 2)))]))
            at = {a: 0, b: 1, c: 2}
            table = with_names_table(self.program, self.table, list(names))
            self.alike(table, [None if row is None else [row[at["p"]], row[at["q"]], row[at["r"]]] for row in self.table])
        self.alike(with_names(LOOP, ["from0"])[3][0], (0, 1, ("upto", "from0", 9)))
        self.alike(with_names(self.program, ["c", "b", "a"])[3][1], (1, 2, ("below", "a", "c", 4)))

    def test_steps(self):
        for order in itertools.permutations(range(3)):
            new = with_steps(self.program, list(order))
            self.alike(new, self.program[:3] + ([self.program[3][number] for number in order],))
        self.alike(with_steps((["x"], 1, [(0, 0)], []), []), (["x"], 1, [(0, 0)], []))

    def test_bent_lists(self):
        for places in ([0, 1], [0, 1, 2, 3], [1, 0, 2], [0, 2, 2], [0, 1, 1, 2], [0, 1, 3], [0, 1, True], (0, 1, 2), None, [],
                       [False, 1, 2], [0, 1, "2"], [0, 1, [2]], [0, 1, -1], {}, [2, 1, 0]):
            self.refused(errors.InvalidPlace, places, with_places, self.program, places)
            self.refused(errors.InvalidPlace, places, with_places_table, self.program, self.table, places)
        for names in (["p", "q"], ["p", "q", "r", "s"], ["p", "q", "q"], ("p", "q", "r"), ["p", "q", "R"], None, [], "pqr",
                      ["p", "q", 1], ["p", "q", ["r"]], ["p", "q", "r00"], {}, ["p", "q", ""], ["p", "p", "q", "r"]):
            self.refused(errors.InvalidName, names, with_names, self.program, names)
            self.refused(errors.InvalidName, names, with_names_table, self.program, self.table, names)
        for order in ([0, 1], [0, 1, 2, 3], [0, 1, 1], [0, 1, 2, 2], [0, 1, 3], (0, 1, 2), None, [], [0, True, 2], [False, 1, 2],
                      [0, 1, "2"], [0, 1, [2]], [0, 1, -1], {}):
            self.refused(errors.InvalidStep, order, with_steps, self.program, order)
        self.refused(errors.InvalidTable, None, with_places_table, self.program, None, None)
        self.refused(errors.InvalidTable, None, with_names_table, self.program, None, None)

    def test_many_places_and_a_short_list(self):
        many = (["x"], FAR, [(0, 0)], [])
        places = [0]
        self.refused(errors.InvalidPlace, places, with_places, many, places)
