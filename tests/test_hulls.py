"""[12] to [14] Hulls, what ranges lose, and rounds."""

import time

from stillranges import errors
from stillranges.hulls import any_round, hull, hull_of, is_round, lost_bounds, most_moves, run_to_bound, whole_hull
from stillranges.kept import is_kept
from stillranges.kinds import bounds_of, end_at
from stillranges.least import least_table
from stillranges.ranges import table_within
from stillranges.running import all_reached, first_run_to, is_run, reached, state_behind, states_of
from tests.helpers import CLIMB, FAR, LOOP, Case, any_program, dice, moves_from

ITSELF = (["x"], 2, [(0, 0)], [(0, 1, ("from", "x", 5)), (1, 0, ("set", "x", 9))])
EVENS = (["x"], 2, [(0, 0)], [(0, 1, ("upto", "x", 7)), (1, 0, ("add", "x", "x", 2))])
# At the place 2 x and y always differ, which ranges forget: nothing ever comes to the place 3, but its row is there.
APART = (["x", "y"], 4, [(0, 0), (0, 0)], [
    (0, 1, ("input", "x", (0, 1))), (1, 2, ("turn", "y", "x", 1)), (2, 3, ("equal", "x", "y", 0))])
AROUND = (["x"], 1, [(0, 0)], [(0, 0, ("go",))])


def hull_by_ends(program, states):
    table = []
    for place in range(program[1]):
        here = [numbers for at, numbers in states if at == place]
        table.append([(min(column), max(column)) for column in zip(*here)] if here else None)
    return table


def longest_way(program, states):
    """The greatest number of moves from a beginning on, None if some way comes back, by trying all ways."""
    far = {}

    def from_here(state, ahead):
        key = (state[0], tuple(state[1]))
        if key in ahead:
            return None
        if key not in far:
            behind = [from_here(state_behind(program, state, move), ahead | {key}) for move in moves_from(program, state)]
            far[key] = None if None in behind else max([0] + [many + 1 for many in behind])
        return far[key]

    ways = [from_here(state, frozenset()) for state in states]
    return None if None in ways else max(ways)


def any_tangle(chance):
    """A program whose names hang together, which ranges forget."""
    steps = [(place, (place + 1) % 4, chance.choice([
        ("turn", "a", "b", chance.randint(0, 2)), ("add", "b", "a", chance.randint(-1, 2)), ("equal", "a", "b", 0),
        ("below", "a", "b", chance.randint(-1, 1)), ("upto", "a", 3), ("input", "a", (0, 1)), ("add", "a", "a", 2)]))
        for place in (0, 1, 2, 3, chance.randrange(4))]
    return (["a", "b"], 4, [(0, 1), (0, 0)], steps)


def some_programs(seed, many):
    """Programs with few reached states, with these."""
    chance = dice(seed)
    found = []
    while len(found) < many:
        program = any_program(chance, names=chance.randint(1, 2), places=3, steps=chance.randint(1, 5))
        if chance.random() < 0.5:
            program = any_tangle(chance)
        try:
            states = all_reached(program)
        except errors.TooMany:
            continue
        if len(states) < 60:
            found.append((program, states))
    return found


class Hulls(Case):
    def test_of_some_states(self):
        program = (["a", "b"], 3, [(0, 0), (0, 0)], [])
        self.alike(hull_of(program, []), [None, None, None])
        self.alike(hull_of(program, [(1, [FAR, -2])]), [None, [(FAR, FAR), (-2, -2)], None])
        states = [(2, [3, 0]), (0, [1, 1]), (2, [-5, 4]), (2, [0, -FAR]), (2, [3, 0])]
        self.alike(hull_of(program, states), [[(1, 1), (1, 1)], None, [(-5, 3), (-FAR, 4)]])

    def test_of_what_is_no_list_of_states(self):
        for states in (None, {}, ((0, [0]),), [(0, [0]), None], [(0, [0]), (3, [0])], [(0, [0, 0])], [(0, (0,))], [[0, [0]]],
                       [(0, [True])], [(True, [0])], "", (0, [0]), [0, [0]], [(0, [0], 0)]):
            self.refused(errors.InvalidState, states, hull_of, LOOP, states)

    def test_of_reached_states(self):
        for program, states in some_programs(21, 150):
            self.alike(whole_hull(program), hull_by_ends(program, states))
            self.alike(hull_of(program, states[::-1]), whole_hull(program))
            for most in (0, 1, 3, FAR):
                self.alike(hull(program, most), hull_by_ends(program, reached(program, most)))

    def test_against_the_least_table(self):
        kept = 0
        for program, _ in some_programs(22, 300):
            least, whole = least_table(program), whole_hull(program)
            self.assertTrue(table_within(program, whole, least))
            self.assertEqual(whole == least, is_kept(program, whole))
            self.assertEqual(lost_bounds(program) == [], whole == least)
            kept += whole == least
        self.assertTrue(50 < kept < 280, kept)

    def test_most(self):
        for most in (-1, True, None, "0", [0], -FAR):
            self.refused(errors.InvalidNumber, most, hull, LOOP, most)
        self.alike(hull(LOOP, 0), [[(0, 0)], None, None])


class Lost(Case):
    def test_evens(self):
        self.alike(least_table(EVENS)[0], [(0, 9)])
        self.alike(whole_hull(EVENS), [[(0, 8)], [(0, 6)]])
        self.alike(lost_bounds(EVENS), [(0, "x", "high"), (1, "x", "high")])

    def test_a_place_at_which_the_hull_has_no_row(self):
        self.alike(least_table(APART)[3], [(0, 1), (0, 1)])
        self.assertIsNone(whole_hull(APART)[3])
        self.alike(lost_bounds(APART), [(3, "x", "high"), (3, "x", "low"), (3, "y", "high"), (3, "y", "low")])
        self.assertIsNone(run_to_bound(APART, (3, "y", "low")))
        self.alike(run_to_bound(APART, (2, "y", "low")), ([0, 0], [(0, 1), (1, None)]))

    def test_places_without_rows_lose_nothing(self):
        self.alike(lost_bounds(ITSELF), [])
        for side in ("low", "high"):
            self.assertIsNone(run_to_bound(ITSELF, (1, "x", side)))
            self.alike(run_to_bound(ITSELF, (0, "x", side)), ([0], []))

    def test_endless_ends_are_lost(self):
        program = APART[:3] + (APART[3] + [(3, 3, ("add", "x", "x", 1)), (3, 0, ("go",))],)
        self.alike(least_table(program)[0], [(0, None), (0, 1)])
        self.alike(whole_hull(program)[0], [(0, 0), (0, 0)])
        self.alike(lost_bounds(program)[:2], [(0, "x", "high"), (0, "y", "high")])
        self.assertIsNone(run_to_bound(program, (0, "x", "high")))

    def test_against_all_bounds_and_states(self):
        for program, states in some_programs(23, 200):
            least, whole = least_table(program), whole_hull(program)
            lost = []
            for bound in bounds_of(program):
                place, name, _ = bound
                run = run_to_bound(program, bound)
                if least[place] is None:
                    self.assertIsNone(run)
                    continue
                end = end_at(program, least, bound)
                if whole[place] is None or end_at(program, whole, bound) != end:
                    lost.append(bound)
                    self.assertIsNone(run)
                    continue
                at = program[0].index(name)
                there = [state for state in states if state[0] == place and state[1][at] == end]
                first = min((first_run_to(program, state) for state in there), key=lambda told: (len(told[1]), told))
                self.alike(run, first)
            self.alike(lost_bounds(program), lost)


class Rounds(Case):
    def test_none(self):
        self.assertIsNone(any_round(CLIMB))
        self.alike(most_moves(CLIMB), 7)
        self.alike(most_moves(LOOP), 21)
        self.alike(most_moves((["x"], 1, [(0, 3)], [])), 0)
        self.assertIsNone(any_round((["x"], 1, [(0, 3)], [])))

    def test_of_a_single_move(self):
        self.alike(any_round(AROUND), (([0], []), [(0, None)]))
        self.assertIsNone(most_moves(AROUND))
        for moves, expected in (([(0, None)], True), ([(0, None)] * 3, True), ([], False), (((0, None),), False),
                                ([(1, None)], False), ([(0, 0)], False), (None, False), ([None], False)):
            self.assertIs(is_round(AROUND, (([0], []), moves)), expected)

    def test_by_an_input(self):
        program = (["x"], 2, [(0, 0)], [(0, 1, ("input", "x", (-1, 3))), (1, 0, ("upto", "x", 0))])
        told = any_round(program)
        self.assertIs(is_round(program, told), True)
        self.assertIsNone(most_moves(program))
        run = ([0], [(0, 3)])
        self.assertIs(is_round(program, (run, [(1, None), (0, 3)])), False)
        run = ([0], [(0, -1)])
        self.assertIs(is_round(program, (run, [(1, None), (0, -1)])), True)
        self.assertIs(is_round(program, (run, [(1, None), (0, 0)])), False)
        self.assertIs(is_round(program, (run, [(1, None)])), False)
        shut = program[:3] + ([program[3][0], (1, 0, ("from", "x", 4))],)
        self.assertIsNone(any_round(shut))
        self.alike(most_moves(shut), 1)

    def test_bent(self):
        run, moves = ([0], [(0, None)]), [(1, None), (0, None), (1, None), (0, None)]
        program = (["x"], 2, [(0, 1)], [(0, 1, ("go",)), (1, 0, ("turn", "x", "x", 1))])
        self.assertIs(is_round(program, (run, moves)), True)
        for value in ((run, moves[:2]), (run, moves[:3]), (run, moves[1:]), [run, moves], (run, moves, []), (run,), (run, ()),
                      (([2], [(0, None)]), moves), ((0, [(0, None)]), moves), (([0], []), moves), (moves, run), None, {}, run,
                      (([0], [(0, None), (0, None)]), moves), (run, tuple(moves)), (run, [list(move) for move in moves]),
                      (([False], [(0, None)]), moves), (run, [(True, None)] + moves[1:])):
            self.assertIs(is_round(program, value), False)

    def test_against_all_ways(self):
        rounds = 0
        for program, states in some_programs(24, 400):
            told = any_round(program)
            expected = longest_way(program, [state for state in states if is_run(program, (state[1], [])) and state[0] == 0])
            self.alike(most_moves(program), expected)
            self.assertEqual(told is None, expected is not None)
            if told is not None:
                rounds += 1
                self.assertIs(is_round(program, told), True)
                run, moves = told
                self.alike(states_of(program, (run[0], run[1] + moves))[-1], states_of(program, run)[-1])
        self.assertTrue(50 < rounds < 350)


class TooMany(Case):
    def refused_by_all(self, program):
        for function in (whole_hull, lost_bounds, any_round, most_moves):
            self.too_many(function, program)
        self.too_many(run_to_bound, program, (0, program[0][0], "low"))
        self.too_many(hull, program, 5000)

    def test_just_2000_and_2001(self):
        for low, high in ((0, 1999), (-FAR, 1999 - FAR)):
            program = (["x"], 1, [(low, high)], [])
            self.alike(whole_hull(program), [[(low, high)]])
            self.alike(hull(program, 0), [[(low, high)]])
            self.alike(lost_bounds(program), [])
            self.alike(run_to_bound(program, (0, "x", "high")), ([high], []))
            self.alike(most_moves(program), 0)
            more = (["x"], 1, [(low, high + 1)], [])
            self.refused_by_all(more)
            self.too_many(hull, more, 0)

    def test_endlessly_many(self):
        up = (["x"], 1, [(0, 0)], [(0, 0, ("add", "x", "x", 1))])
        self.refused_by_all(up)
        self.alike(hull(up, 1999), [[(0, 1999)]])
        self.too_many(hull, up, 2000)
        for span in ((None, 0), (0, None), (None, None), (0, FAR)):
            self.refused_by_all((["x"], 1, [span], []))
            self.refused_by_all((["x"], 1, [(0, 0)], [(0, 0, ("input", "x", span))]))

    def test_behind_other_errors(self):
        up = (["x"], 1, [(0, 0)], [(0, 0, ("add", "x", "x", 1))])
        for bound in ((1, "x", "low"), None, (0, "y", "low")):
            self.refused(errors.InvalidBound, bound, run_to_bound, up, bound)
        self.refused(errors.InvalidNumber, -1, hull, up, -1)
        self.assertIs(is_round(up, (([0], []), [(0, None)])), False)


class Limits(Case):
    def test_within_seconds(self):
        began = time.perf_counter()
        wide = (["a"], 2, [(0, 0)], [(0, 1, ("input", "a", (0, 1998))) for _ in range(30)])
        self.assertIsNone(any_round(wide))
        self.alike(most_moves(wide), 1)
        back = (["a"], 1, [(0, 0)], [(0, 0, ("input", "a", (0, 1999))) for _ in range(30)])
        self.assertIs(is_round(back, any_round(back)), True)
        line = (["x"], 2, [(0, 0)], [(0, 1, ("upto", "x", 998)), (1, 0, ("add", "x", "x", 1))])
        self.alike(most_moves(line), 1998)
        self.assertEqual(len(run_to_bound(line, (1, "x", "high"))[1]), 1997)
        ring = (["x"], 2, [(0, 1998)], [(0, 1, ("from", "x", 1998)), (1, 0, ("set", "x", 0))])
        self.assertIsNone(any_round(ring))
        names = ["a", "b", "c", "d", "e"]
        steps = [(at % 12, (at + 1) % 12, ("turn", names[at % 5], names[at % 5], 1)) for at in range(30)]
        told = any_round((names, 12, [(0, 1)] * 5, steps))
        self.assertIs(is_round((names, 12, [(0, 1)] * 5, steps), told), True)
        self.assertLess(time.perf_counter() - began, 20)
