"""[56] and [57] Rounds, and whether they come to rest."""

import time

from stillranges import errors
from stillranges.kept import led_by
from stillranges.kinds import bounds_of, end_at
from stillranges.least import least_table
from stillranges.ranges import table_within
from stillranges.rounds import rests, rounds_to_rest, table_behind, told_endless
from stillranges.running import holds_state, reached
from stillranges.turned import mirrored, mirrored_table, scaled
from tests.helpers import CLIMB, FAR, FULL, LOOP, Case, any_program, dice
from tests.test_least import any_great

NAMES = ["a", "b", "c", "d", "e"]
# Each name at each place climbs by 1 in each round, so nothing rests.
DENSE = (NAMES, 12, [(0, 0)] * 5, [(at % 12, (at + 1) % 12 if at < 12 else (at * 5 + 1) % 12,
                                    ("add", NAMES[at % 5], NAMES[(at + at // 12) % 5], 1)) for at in range(30)])


def some_programs(seed, many, steps=7, endless=0.15):
    chance = dice(seed)
    for _ in range(many):
        yield any_program(chance, names=chance.randint(1, 3), places=chance.randint(1, 4), steps=chance.randint(0, steps),
                          endless=chance.choice([0, endless]))


def up_to(last, more=0):
    """A loop to a number, with some steps behind it, one after the other: it rests behind 2 * last + 4 + more rounds."""
    behind = [(2 + at, 3 + at, ("go",)) for at in range(more)]
    return (["i"], 3 + more, [(0, 0)], [(0, 1, ("upto", "i", last)), (1, 0, ("add", "i", "i", 1)),
                                        (0, 2, ("from", "i", last + 1))] + behind)


def endless_in(program, table):
    """The bounds whose value is endless in a table."""
    return [bound for bound in bounds_of(program) if table[bound[0]] is not None and end_at(program, table, bound) is None]


class Rounds(Case):
    def test_against_what_is_led_again_and_again(self):
        for program in some_programs(201, 250):
            least = least_table(program)
            table = [None] * program[1]
            for many in range(13):
                told = table_behind(program, many)
                self.alike(told, table)
                self.assertIs(table_within(program, told, least), True)
                behind = led_by(program, table)
                self.assertIs(table_within(program, table, behind), True)
                table = behind

    def test_states_of_runs_with_fewer_steps_are_held(self):
        held = 0
        for program in some_programs(202, 150, endless=0):
            for many in range(1, 6):
                try:
                    states = reached(program, many - 1)
                except errors.TooMany:
                    break
                table = table_behind(program, many)
                for state in states:
                    self.assertIs(holds_state(program, table, state), True)
                held += len(states)
        self.assertGreater(held, 5000)

    def test_none_one_and_just_as_many_as_rest(self):
        self.alike(table_behind(LOOP, 0), [None] * 3)
        self.alike(table_behind(LOOP, 1), [[(0, 0)], None, None])
        self.alike(table_behind(LOOP, 21), [[(0, 10)], [(0, 9)], None])
        for many in (22, 23, 2000, FAR):
            self.alike(table_behind(LOOP, many), least_table(LOOP))
        still = (["x", "y"], 2, [(None, 3), (4, 4)], [(1, 0, ("set", "x", 9))])
        self.alike([table_behind(still, many) for many in (0, 1, 2)], [[None, None]] + [[[(None, 3), (4, 4)], None]] * 2)
        self.alike(table_behind(FULL, 2000), table_behind(FULL, 1999) if rests(FULL) else table_behind(FULL, 2000))

    def test_two_thousand(self):
        began = time.perf_counter()
        self.alike(table_behind(up_to(5000), 2000), [[(0, 999)], [(0, 999)], None])
        self.alike(table_behind(up_to(5000), 1999), [[(0, 999)], [(0, 998)], None])
        for span in table_behind(DENSE, 2000)[0]:
            self.assertEqual(span[0], 0)
        chance = dice(203)
        for top in (3, FAR):
            program = any_great(chance, top)
            self.assertIs(table_within(program, table_behind(program, 2000), least_table(program)), True)
        self.assertLess(time.perf_counter() - began, 20)

    def test_wrong_counts(self):
        for many in (-1, None, True, "1", [1], 0.5):
            self.refused(errors.InvalidNumber, many, table_behind, LOOP, many)


class Resting(Case):
    def test_against_going_round(self):
        """In small programs each end that is told endless is so behind a few rounds, and all climbing goes on."""
        resting, climbing, both = 0, 0, 0
        for program in some_programs(204, 1500, 14):
            least = least_table(program)
            tables = [[None] * program[1], led_by(program, [None] * program[1])]
            while len(tables) < 80 and tables[-1] != tables[-2]:
                tables.append(led_by(program, tables[-1]))
            far = tables[-1]
            told = endless_in(program, far)
            self.alike(told_endless(program), told)
            self.assertIs(rests(program), far == least)
            self.assertIs(rests(program), told == endless_in(program, least))
            if far == least:
                resting += 1
                self.assertEqual(rounds_to_rest(program), [table == least for table in tables].index(True))
            else:
                climbing += 1
                self.assertIs(rounds_to_rest(program), None)
                both += bool(told)
        self.assertTrue(resting > 1000 and climbing > 200 and both > 20, (resting, climbing, both))

    def test_the_start(self):
        for start, expected in (([(0, 0), (0, 0)], []), ([(None, 0), (0, 0)], [(0, "x", "low")]),
                                ([(None, None), (0, None)], [(0, "x", "high"), (0, "x", "low"), (0, "y", "high")])):
            program = (["x", "y"], 2, start, [(1, 0, ("go",))])
            self.alike(told_endless(program), expected)
            self.alike([rests(program), rounds_to_rest(program)], [True, 1])

    def both_ways(self, steps, expected, start, places=2):
        """What is told endless of a program, and the mirrored program has it at the other sides."""
        program = (["x", "y"], places, start, steps)
        self.alike(told_endless(program), expected)
        turned = [(place, name, "low" if side == "high" else "high") for place, name, side in expected]
        self.alike(told_endless(mirrored(program)), sorted(turned))

    def test_inputs(self):
        self.both_ways([(0, 1, ("input", "x", (3, None)))], [(1, "x", "high")], [(0, 0)] * 2)
        self.both_ways([(0, 1, ("input", "x", (None, None)))], [(1, "x", "high"), (1, "x", "low")], [(0, 0)] * 2)
        self.both_ways([(0, 1, ("input", "x", (3, 5)))], [], [(0, 0)] * 2)
        # An input that is never come to, and one that is done behind a test that never holds.
        self.both_ways([(1, 0, ("input", "x", (3, None)))], [], [(0, 0)] * 2)
        self.both_ways([(0, 1, ("from", "x", 1)), (1, 0, ("input", "x", (3, None)))], [], [(0, 0)] * 2)

    def test_ends_that_hang_on_bounds(self):
        start = [(0, None), (0, 0)]
        here = (0, "x", "high")
        for deed, expected in (
                (("go",), [(1, "x", "high")]),
                (("set", "x", 3), []),
                (("set", "y", 3), [(1, "x", "high")]),
                (("add", "y", "x", 9), [(1, "x", "high"), (1, "y", "high")]),
                (("turn", "y", "x", 9), [(1, "x", "high"), (1, "y", "low")]),
                (("turn", "x", "x", 9), [(1, "x", "low")]),
                (("upto", "x", 3), []),
                (("from", "x", 3), [(1, "x", "high")]),
                (("least", "y", "x", "y"), [(1, "x", "high")]),
                (("least", "y", "x", "x"), [(1, "x", "high"), (1, "y", "high")]),
                (("greatest", "y", "x", "y"), [(1, "x", "high"), (1, "y", "high")]),
                (("greatest", "y", "y", "x"), [(1, "x", "high"), (1, "y", "high")]),
                (("below", "x", "y", 3), []),
                (("below", "y", "x", 3), [(1, "x", "high")]),
                (("equal", "x", "y", 3), []),
                (("equal", "y", "x", -3), [])):
            self.both_ways([(0, 1, deed)], [here] + expected, start)

    def test_both_of_two_are_needed(self):
        start = [(0, None), (0, None)]
        here = [(0, "x", "high"), (0, "y", "high")]
        for deed, expected in (
                (("least", "y", "x", "y"), [(1, "x", "high"), (1, "y", "high")]),
                (("below", "x", "y", 3), [(1, "x", "high"), (1, "y", "high")]),
                (("equal", "x", "y", 3), [(1, "x", "high"), (1, "y", "high")])):
            self.both_ways([(0, 1, deed)], here + expected, start)
        for deed, expected in (
                (("least", "y", "x", "y"), [(1, "x", "high"), (1, "x", "low"), (1, "y", "low")]),
                (("greatest", "y", "x", "y"), [(1, "x", "high"), (1, "x", "low"), (1, "y", "high")]),
                (("below", "x", "y", 3), [(1, "x", "low")]),
                (("equal", "x", "y", 3), [])):
            self.both_ways([(0, 1, deed)], [(0, "x", "high"), (0, "x", "low")] + expected, [(None, None), (0, 0)])

    def test_climbing_is_not_told(self):
        # x climbs for ever; y, the lesser one of x and of what is told endless, hangs on what climbs.
        steps = [(0, 1, ("least", "z", "x", "y")), (1, 0, ("add", "x", "x", 1))]
        program = (["x", "y", "z"], 2, [(0, 0), (0, None), (0, 0)], steps)
        self.alike(told_endless(program), [(0, "y", "high"), (1, "y", "high")])
        self.alike([rests(program), rounds_to_rest(program)], [False, None])
        greatest = program[:3] + ([(0, 1, ("greatest", "z", "x", "y")), steps[1]],)
        self.alike(told_endless(greatest), [(0, "y", "high"), (0, "z", "high"), (1, "y", "high"), (1, "z", "high")])
        self.alike(rests(greatest), False)
        # What climbs is told endless as soon as another way tells it.
        also = program[:3] + (steps + [(1, 0, ("add", "x", "y", 0))],)
        self.alike(told_endless(also), [(place, name, "high") for place in (0, 1) for name in ("x", "y", "z")])
        self.alike([rests(also), rounds_to_rest(also)], [True, 5])
        # A test that holds only behind many rounds lets an end in that is told.
        late = (["x"], 2, [(0, 0)], [(0, 0, ("add", "x", "x", 1)), (0, 1, ("from", "x", FAR)), (1, 1, ("input", "x", (None, 0)))])
        self.alike(told_endless(late), [(1, "x", "low")])
        self.alike([rests(late), rounds_to_rest(late)], [False, None])

    def test_how_many_rounds(self):
        for last in (0, 1, 9, 100):
            for more in (0, 1, 4):
                self.assertEqual(rounds_to_rest(up_to(last, more)), 2 * last + 4 + more)
        for program in (LOOP, CLIMB, up_to(30)):
            for factor in (2, 7, FAR):
                self.assertEqual(rounds_to_rest(scaled(program, factor)), rounds_to_rest(program))
            self.assertEqual(rounds_to_rest(mirrored(program)), rounds_to_rest(program))
            self.alike(table_behind(mirrored(program), 7), mirrored_table(program, table_behind(program, 7)))

    def test_too_many(self):
        self.assertEqual(rounds_to_rest(up_to(997)), 1998)
        self.assertEqual(rounds_to_rest(up_to(997, 1)), 1999)
        self.assertEqual(rounds_to_rest(up_to(998)), 2000)
        self.too_many(rounds_to_rest, up_to(998, 1))
        self.too_many(rounds_to_rest, up_to(999))
        began = time.perf_counter()
        self.too_many(rounds_to_rest, up_to(FAR))
        self.alike(rests(up_to(FAR)), True)
        # What never rests is told so, however many rounds there would be.
        self.assertIs(rounds_to_rest(DENSE), None)
        chance = dice(205)
        for _ in range(10):
            program = any_great(chance, chance.choice([3, FAR]))
            self.assertIs(rests(program), told_endless(program) == endless_in(program, least_table(program)))
            try:
                self.assertEqual(rounds_to_rest(program) is None, not rests(program))
            except errors.TooMany as told:
                self.assertEqual(told.value, 2001)
        self.assertLess(time.perf_counter() - began, 20)
