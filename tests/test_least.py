"""[21] to [23] The least table and openings."""

import time

from stillranges import errors
from stillranges.kept import holding_at, is_kept
from stillranges.least import (
    end_limit, greatest_told, is_least, is_openings, least_table, openings, openings_by, range_at, reached_places)
from stillranges.kinds import bounds_of, end_at, is_open
from stillranges.phases import are_kept_values, values_of_table
from stillranges.ranges import table_joined, table_within
from stillranges.running import first_left
from tests.going_round import least_by_rounds
from tests.helpers import FAR, LOOP, Case, any_deed, any_program, any_span, copied, dice
from tests.later_calls import LEAST, OPENINGS

ITSELF = (["x"], 2, [(0, 0)], [(0, 1, ("from", "x", 5)), (1, 0, ("set", "x", 9))])
TWO = (["x", "y"], 3, [(0, 0), (0, 0)], [
    (0, 1, ("below", "x", "y", 0)), (1, 0, ("add", "x", "x", 1)), (0, 2, ("below", "y", "x", 0)),
    (2, 0, ("add", "y", "y", 1))])


def counted(number, step=1):
    """A loop that counts up to a number, with a place behind it."""
    return (["i"], 3, [(0, 0)], [(0, 1, ("upto", "i", number - 1)), (1, 0, ("add", "i", "i", step)),
                                 (0, 2, ("from", "i", number))])


def some_programs(seed, many):
    chance = dice(seed)
    for _ in range(many):
        yield any_program(chance, names=chance.randint(1, 3), places=chance.randint(1, 4),
                          steps=chance.randint(0, 9), endless=chance.choice([0, 0, 0.2]))


def any_great(chance, top):
    """A program up to the limits, whose places come one behind the other."""
    names = ["a", "b", "c", "d", "e"]
    steps = [(min(at, chance.randint(0, 11)) if at < 12 else chance.randrange(12),
              at + 1 if at < 11 else chance.randrange(12), any_deed(chance, names, -top, top, 0.1)) for at in range(30)]
    return (names, 12, [any_span(chance, -top, top, 0.1) for _ in names], steps)


class LeastTable(Case):
    def test_loops_to_any_number(self):
        for number in (1, 2, 10, 1000, FAR, FAR + 1):
            self.alike(least_table(counted(number)), [[(0, number)], [(0, number - 1)], [(number, number)]])
            self.alike(range_at(counted(number), 0, "i"), (0, number))
        self.alike(least_table(counted(FAR, FAR)), [[(0, 2 * FAR - 1)], [(0, FAR - 1)], [(FAR, 2 * FAR - 1)]])
        self.alike(least_table(counted(FAR, 0)), [[(0, 0)], [(0, 0)], None])
        self.alike(least_table(counted(FAR, -1)), [[(None, 0)], [(None, 0)], None])
        self.alike(least_table(counted(-FAR)), [[(0, 0)], None, [(0, 0)]])

    def test_against_going_round(self):
        for program in some_programs(31, 1500):
            least = least_table(program)
            self.alike(least, least_by_rounds(program))
            self.assertIs(is_kept(program, least), True)
            self.assertIs(is_least(program, least), True)
            self.alike(reached_places(program), [place for place, row in enumerate(least) if row is not None])
            for place, row in enumerate(least):
                for at, name in enumerate(program[0]):
                    self.alike(range_at(program, place, name), None if row is None else row[at])

    def test_endless_on_each_side(self):
        for number, expected in ((3, (0, None)), (-3, (None, 0)), (0, (0, 0))):
            self.alike(least_table((["x"], 1, [(0, 0)], [(0, 0, ("add", "x", "x", number))])), [[expected]])
        turn = (["x"], 1, [(0, 1)], [(0, 0, ("turn", "x", "x", -1)), (0, 0, ("add", "x", "x", 1))])
        self.alike(least_table(turn), [[(None, None)]])
        for start in ((None, 5), (5, None), (None, None)):
            self.alike(least_table((["x"], 1, [start], [])), [[start]])
            self.alike(least_table((["x"], 2, [(0, 0)], [(0, 1, ("input", "x", start))])), [[(0, 0)], [start]])
        self.alike(least_table((["x"], 2, [(None, 5)], [(0, 1, ("from", "x", -2))])), [[(None, 5)], [(-2, 5)]])
        self.alike(least_table((["x"], 2, [(5, None)], [(0, 1, ("turn", "x", "x", 1))])), [[(5, None)], [(None, -4)]])

    def test_tests_between_names(self):
        self.alike(least_table(TWO)[0], [(0, None), (0, None)])
        limit = (["i", "n"], 2, [(0, 0), (3, 50)], [(0, 1, ("below", "i", "n", -1)), (1, 0, ("add", "i", "i", 1))])
        self.alike(least_table(limit), [[(0, 50), (3, 50)], [(0, 49), (3, 50)]])
        far = limit[:2] + ([(0, 0), (3, FAR)],) + limit[3:]
        self.alike(least_table(far), [[(0, FAR), (3, FAR)], [(0, FAR - 1), (3, FAR)]])
        equal = (["x", "y"], 2, [(0, 9), (5, None)], [(0, 1, ("equal", "x", "y", -2)), (1, 1, ("add", "y", "y", 1))])
        self.alike(least_table(equal), [[(0, 9), (5, None)], [(3, 9), (5, None)]])

    def test_lesser_and_greater_ones(self):
        cap = (["x", "y"], 2, [(0, 0), (7, 9)], [(0, 1, ("add", "x", "x", 1)), (1, 0, ("least", "x", "x", "y"))])
        self.alike(least_table(cap), [[(0, 9), (7, 9)], [(1, 10), (7, 9)]])
        floor = (["x", "y"], 2, [(0, 0), (-FAR, -FAR)], [(0, 1, ("add", "x", "x", -1)), (1, 0, ("greatest", "x", "y", "x"))])
        self.alike(least_table(floor), [[(-FAR, 0), (-FAR, -FAR)], [(-FAR - 1, -1), (-FAR, -FAR)]])

    def test_places_to_which_nothing_comes(self):
        self.alike(least_table(ITSELF), [[(0, 0)], None])
        self.alike(reached_places(ITSELF), [0])
        self.assertIsNone(range_at(ITSELF, 1, "x"))
        self.assertIs(is_kept(ITSELF, [[(0, 9)], [(5, 9)]]), True)
        self.alike(least_table((["x"], 3, [(0, 0)], [(1, 2, ("go",)), (2, 1, ("go",))])), [[(0, 0)], None, None])
        self.alike(least_table((["x"], 13, [(0, 0)], [])), [[(0, 0)]] + [None] * 12)

    def test_not_all_is_come_to(self):
        evens = (["x"], 2, [(0, 0)], [(0, 1, ("upto", "x", 7)), (1, 0, ("add", "x", "x", 2))])
        self.alike(least_table(evens), [[(0, 9)], [(0, 7)]])

    def test_within_each_kept_table(self):
        chance = dice(32)
        kept = 0
        for program in some_programs(33, 400):
            least = least_table(program)
            other = [None if chance.random() < 0.3 else [any_span(chance, -3, 3, 0.5) for _ in program[0]] for _ in least]
            for table in (other, table_joined(program, least, other)):
                if is_kept(program, table):
                    kept += 1
                    self.assertTrue(table_within(program, least, table))
        self.assertGreater(kept, 30)

    def test_runs_stay_within(self):
        chance = dice(34)
        for program in some_programs(35, 200):
            start = [chance.randint(-9 if low is None else low, 9 if high is None else high) for low, high in program[2]]
            run = (start, [])
            place, numbers = 0, dict(zip(program[0], start))
            for _ in range(20):
                steps = [at for at, step in enumerate(program[3]) if step[0] == place and step[2][0] in ("go", "add", "set")]
                if not steps:
                    break
                at = chance.choice(steps)
                _, place, deed = program[3][at]
                if deed[0] != "go":
                    numbers[deed[1]] = deed[2] if deed[0] == "set" else numbers[deed[2]] + deed[3]
                run[1].append((at, None))
            self.assertIsNone(first_left(program, least_table(program), run))

    def test_what_is_the_least_table(self):
        for value in ([[(0, 10)], [(0, 9)], [(10, 11)]], [[(0, 10)], [(0, 9)], None], [[(0, 10)], [(0, 9)]], tuple(LEAST),
                      [((0, 10),), [(0, 9)], [(10, 10)]], [[[0, 10]], [(0, 9)], [(10, 10)]], None, [], {}, LEAST + [None],
                      [[(False, 10)], [(0, 9)], [(10, 10)]], [[(None, None)]] * 3, [None] * 3):
            self.assertIs(is_least(LOOP, value), False)
        self.assertIs(is_least(LOOP, LEAST), True)

    def test_within_seconds_up_to_the_limits(self):
        chance = dice(36)
        began = time.perf_counter()
        for top in [2, 30, 10 ** 15, FAR] * 8:
            program = any_great(chance, top)
            least = least_table(program)
            self.assertIs(is_kept(program, least), True)
            rows = openings_by(program, [chance.randrange(99) for _ in range(30)])
            self.alike(rows[-1][1], least)
            self.assertIs(is_openings(program, rows), True)
        self.assertLess(time.perf_counter() - began, 40)


class Openings(Case):
    def check_openings(self, program, rows):
        """What the document tells of each list of openings."""
        ahead, opened_ahead = [program[2]] + [None] * (program[1] - 1), []
        for opened, table in rows:
            self.assertIs(is_open(program, opened), True)
            self.assertLess(set(opened_ahead), set(opened))
            self.assertLessEqual(set(opened), set(holding_at(program, ahead)))
            self.assertLessEqual(set(opened), set(holding_at(program, table)))
            self.assertTrue(table_within(program, ahead, table))
            self.assertTrue(table_within(program, table, least_table(program)))
            only = program[:3] + ([program[3][step] for step in opened],)
            self.alike(table, least_by_rounds(only))
            self.assertIs(are_kept_values(program, opened, values_of_table(program, opened, table)), True)
            ahead, opened_ahead = table, opened
        self.alike(ahead, least_table(program))
        self.alike(holding_at(program, ahead), opened_ahead)
        self.assertLessEqual(len(rows), len(program[3]))
        self.assertIs(is_openings(program, rows), True)

    def test_all_at_once(self):
        self.alike(openings(LOOP), OPENINGS)
        self.alike(openings(ITSELF), [])
        self.alike(openings((["x"], 1, [(0, 0)], [])), [])
        for program in some_programs(37, 300):
            rows = openings(program)
            self.check_openings(program, rows)
            tables = [[program[2]] + [None] * (program[1] - 1)] + [table for _, table in rows]
            self.alike([opened for opened, _ in rows], [holding_at(program, table) for table in tables[:-1]])

    def test_one_at_a_time(self):
        chance = dice(38)
        for program in some_programs(39, 300):
            picks = [chance.randint(0, 12) for _ in range(chance.randint(0, 8))]
            rows = openings_by(program, picks)
            self.check_openings(program, rows)
            ahead, table = [], [program[2]] + [None] * (program[1] - 1)
            for at, (opened, behind) in enumerate(rows):
                waiting = [step for step in holding_at(program, table) if step not in ahead]
                self.alike(opened, sorted(ahead + [waiting[(picks + [0] * 9)[at] % len(waiting)]]))
                ahead, table = opened, behind

    def test_picks(self):
        three = (["x"], 4, [(0, 0)], [(0, place, ("go",)) for place in (1, 2, 3)])
        for picks, expected in (([], [0, 1, 2]), ([1], [1, 0, 2]), ([2, 1], [2, 1, 0]), ([5, 3], [2, 1, 0]), ([FAR], [1, 0, 2]),
                                ([0, 0, 0, 7, 7], [0, 1, 2])):
            opened = [opened for opened, _ in openings_by(three, picks)]
            self.alike(opened, [sorted(expected[:many]) for many in (1, 2, 3)])
        for picks in ([-1], [True], (0,), None, 0, [None], ["0"], [[0]], {}):
            self.refused(errors.InvalidNumber, picks, openings_by, three, picks)

    def test_some_at_a_time(self):
        chance = dice(40)
        for program in some_programs(41, 150):
            rows, opened, table = [], [], [program[2]] + [None] * (program[1] - 1)
            while True:
                waiting = [step for step in holding_at(program, table) if step not in opened]
                if not waiting:
                    break
                opened = sorted(opened + chance.sample(waiting, chance.randint(1, len(waiting))))
                table = least_by_rounds(program[:3] + ([program[3][step] for step in opened],))
                rows.append((opened, table))
            self.check_openings(program, copied(rows))

    def test_bent_at_each_part(self):
        self.assertIs(is_openings(LOOP, OPENINGS), True)
        for at in range(3):
            opened, table = OPENINGS[at]
            for other in (None, (opened, table, []), [opened, table], (opened,), (table, opened), (tuple(opened), table),
                          (opened, tuple(table)), (opened[1:], table), ([], table), (opened + [3], table),
                          (opened, [None] + table[1:]), (opened, [[(0, 11)]] + table[1:]), (opened, table[:2]),
                          (opened[::-1] + opened[-1:], table), ([False] + opened[1:], table), ([opened], table),
                          (opened, [[(-1, None)], [(None, None)], [(None, None)]])):
                self.assertIs(is_openings(LOOP, OPENINGS[:at] + [other] + OPENINGS[at + 1:]), False, (at, other))
            self.assertIs(is_openings(LOOP, OPENINGS[:at]), False)
            self.assertIs(is_openings(LOOP, OPENINGS[:at] + OPENINGS[at + 1:]), False)
            self.assertIs(is_openings(LOOP, OPENINGS[:at + 1] + OPENINGS[at:]), False)
        for value in (OPENINGS[::-1], tuple(OPENINGS), None, {}, [[]], [()], [([0, 1], OPENINGS[1][1]), OPENINGS[2]],
                      [([0, 1, 2], LEAST)], OPENINGS[:2] + [([0, 2], LEAST)], OPENINGS[:1] + [([0], OPENINGS[0][1])], [([], [[(0, 0)], None, None])] + OPENINGS):
            self.assertIs(is_openings(LOOP, value), False)
        self.assertIs(is_openings(ITSELF, []), True)
        self.assertIs(is_openings(ITSELF, [([0], [[(0, 0)], [(5, 5)]])]), False)
        self.assertIs(is_openings(ITSELF, [([0, 1], [[(0, 9)], [(5, 9)]])]), False)


class EndLimit(Case):
    def test_greatest_told(self):
        for program, expected in (
                (LOOP, 10), (ITSELF, 9), ((["x"], 1, [(None, None)], []), 0), ((["x"], 1, [(-7, 3)], []), 7),
                ((["x"], 1, [(None, -8)], [(0, 0, ("input", "x", (-9, None)))]), 9),
                ((["x"], 1, [(0, 0)], [(0, 0, ("input", "x", (2, 12)))]), 12),
                ((["x", "y"], 2, [(0, 0), (1, 1)], [(0, 0, ("equal", "x", "y", -FAR)), (1, 1, ("go",))]), FAR),
                ((["x99"], 12, [(0, 0)], [(11, 10, ("least", "x99", "x99", "x99"))]), 0)):
            self.alike(greatest_told(program), expected)
            self.alike(end_limit(program), expected * 2 * len(program[0]) * program[1])
        for deed in (("set", "x", -5), ("add", "x", "x", -5), ("turn", "x", "y", 5), ("upto", "x", 5), ("from", "y", -5),
                     ("below", "x", "y", -5), ("equal", "y", "x", 5), ("input", "x", (-5, 4)), ("input", "x", (None, 5))):
            program = (["x", "y"], 1, [(0, 1), (-2, 3)], [(0, 0, deed)])
            self.alike(greatest_told(program), 5)
            self.alike(end_limit(program), 20)

    def test_no_end_passes_it(self):
        for program in some_programs(42, 300):
            limit = end_limit(program)
            for _, table in openings(program) + openings_by(program, [1, 2, 3]):
                for bound in bounds_of(program):
                    if table[bound[0]] is not None:
                        self.assertLessEqual(abs(end_at(program, table, bound) or 0), limit)
