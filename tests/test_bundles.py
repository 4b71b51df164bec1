"""[72] to [77] Bundles and calls."""

import time

from stillranges import errors
from stillranges.calls import (
    bundle_tables, contexts_of, deepest, depth_for, expanded, is_bundle, is_walk, stands_of)
from stillranges.kinds import is_program
from stillranges.least import least_table
from stillranges.ranges import row_joined, row_within
from stillranges.running import is_run, states_of
from tests.helpers import FAR, LOOP, Case, any_deed, any_span, copied, dice

GO = ("go",)
INC = (["x"], [(0, 0)], [(4, [(0, 1, ("call", 1)), (1, 2, ("set", "x", 10)), (2, 3, ("call", 1))]), (2, [(0, 1, ("add", "x", "x", 1))])])
AGAIN = (["x"], [(0, 9)], [(2, [(0, 0, ("call", 0)), (0, 1, GO)])])
# Two parts that call one another, and come back where x is 0.
EACH = (["x"], [(0, 3)], [(3, [(0, 1, ("from", "x", 1)), (1, 2, ("call", 1)), (0, 2, ("upto", "x", 0))]),
                          (3, [(0, 1, ("add", "x", "x", -1)), (1, 2, ("call", 0))])])
TWO = (["x", "y"], [(0, 0), (0, 0)], [
    (5, [(0, 1, ("set", "x", 1)), (1, 2, ("call", 1)), (2, 3, ("set", "x", 5)), (3, 4, ("call", 1)), (4, 4, ("upto", "y", FAR))]),
    (3, [(0, 1, ("call", 2)), (1, 2, ("add", "y", "y", 3))]), (2, [(0, 1, ("add", "y", "x", 0))]), (2, [(0, 1, ("call", 3))])])


def any_bundle(chance, parts=3, places=3, steps=4, deeper=False):
    """A bundle whose parts call later ones, and if deeper, each part any one."""
    names = ["a", "b"][:chance.randint(1, 2)]
    told = []
    for part in range(parts):
        many = chance.randint(1, places)
        rows = []
        for _ in range(chance.randint(1, steps)):
            called = chance.randint(0 if deeper else part + 1, parts)
            deed = ("call", called) if called < parts and chance.random() < 0.5 else any_deed(chance, names)
            rows.append((chance.randrange(many), chance.randrange(many), deed))
        told.append((many, rows))
    return (names, [any_span(chance, -1, 1) for _ in names], told)


def any_chain(chance, parts=3, deeper=False):
    """A bundle like any_bundle, but one can go through each part from its first place to its last one."""
    names = ["a", "b"]
    parts = max(parts, 2)
    told = []
    for part in range(parts):
        many = chance.randint(2, 3) + 2 * (part == 0)
        rows = []
        for place in range(many - 1):
            deed = any_deed(chance, names)
            if deed[0] not in ("set", "add", "input", "greatest"):
                deed = ("add", "a", "b", 1)
            if (part < parts - 1 or deeper) and (place % 2 == 1 or chance.random() < 0.3):
                deed = ("call", chance.randrange(parts) if deeper else chance.randint(part + 1, parts - 1))
            rows.append((place, place + 1, deed))
        rows.insert(chance.randint(0, many - 1), (chance.randrange(many), chance.randrange(many), any_deed(chance, names)))
        told.append((many, rows))
    return (names, [any_span(chance, -1, 1) for _ in names], told)


def moves_at(bundle, stand):
    """All moves that can be made at a stand, told by the words."""
    calls, part, place, numbers = stand
    many, steps = bundle[2][part]
    now = dict(zip(bundle[0], numbers))
    moves = ["back"] if calls and place == many - 1 else []
    for step, (source, _, deed) in enumerate(steps):
        word = deed[0]
        if source != place:
            continue
        if word == "input":
            moves += [(step, number) for number in range(deed[2][0], deed[2][1] + 1)]
        elif not ((word == "upto" and now[deed[1]] > deed[2]) or (word == "from" and now[deed[1]] < deed[2]) or (
                word == "below" and now[deed[1]] > now[deed[2]] + deed[3]) or (
                word == "equal" and now[deed[1]] != now[deed[2]] + deed[3])):
            moves.append((step, None))
    return moves


def stand_behind(bundle, stand, move):
    calls, part, place, numbers = stand
    if move == "back":
        caller, step = calls[-1]
        return (calls[:-1], caller, bundle[2][caller][1][step][1], list(numbers))
    step, given = move
    _, target, deed = bundle[2][part][1][step]
    if deed[0] == "call":
        return (calls + ((part, step),), deed[1], 0, list(numbers))
    now = dict(zip(bundle[0], numbers))
    if deed[0] == "set":
        now[deed[1]] = deed[2]
    elif deed[0] == "input":
        now[deed[1]] = given
    elif deed[0] == "add":
        now[deed[1]] = now[deed[2]] + deed[3]
    elif deed[0] == "turn":
        now[deed[1]] = deed[3] - now[deed[2]]
    elif deed[0] in ("least", "greatest"):
        now[deed[1]] = (min if deed[0] == "least" else max)(now[deed[2]], now[deed[3]])
    return (calls, part, target, [now[name] for name in bundle[0]])


def any_walk(chance, bundle, most=12):
    """Numbers at the beginning, a walk, its stands and the moves that can be made behind it."""
    numbers = [chance.randint(low, high) for low, high in bundle[1]]
    stands, walk = [((), 0, 0, list(numbers))], []
    for _ in range(most):
        moves = moves_at(bundle, stands[-1])
        if not moves:
            break
        walk.append(chance.choice(moves))
        stands.append(stand_behind(bundle, stands[-1], walk[-1]))
    return numbers, walk, stands


def bundles(seed, many, deeper=(False, True)):
    chance = dice(seed)
    for _ in range(many):
        made = chance.choice([any_bundle, any_chain])
        yield made(chance, parts=chance.randint(1, 3), deeper=chance.choice(deeper)), chance


def few_homes(bundle, depth, most=30):
    contexts = contexts_of(bundle, depth)
    return len(contexts) <= most and sum(bundle[2][part][0] for part, _ in contexts) <= most


class Bundles(Case):
    def test_told_ones(self):
        for bundle in (INC, AGAIN, EACH, TWO, (["x"], [(0, 0)], [(1, [])]), (["a", "b1"], [(None, 0), (3, None)], [(2, []), (1, [])]),
                       (["x"], [(0, 0)], [(1, [(0, 0, ("call", 0))])])):
            self.assertIs(is_bundle(bundle), True)
        for bundle, _ in bundles(271, 50):
            self.assertIs(is_bundle(bundle), True)

    def test_bent_at_each_part(self):
        names, start, parts = INC
        for bundle in (
                None, [], (), list(INC), INC[:2], INC + ([],), (("x",), start, parts), ([], [], parts), (["x", "x"], start * 2, parts),
                (["X"], start, parts), (names, (), parts), (names, [], parts), (names, start * 2, parts), (names, [[0, 0]], parts),
                (names, [(1, 0)], parts), (names, [(True, 1)], parts), (names, start, []), (names, start, tuple(parts)),
                (names, start, None), (names, start, [None]), (names, start, [parts]), (names, start, [list(parts[0]), parts[1]])):
            self.assertIs(is_bundle(bundle), False, bundle)
        for part in ((0, []), (True, []), (-1, []), (None, []), ("1", []), (4, ()), (4, None), (4,), (4, [], []), (4, [None]), (4, [()]),
                     (4, [[0, 1, GO]]), (4, [(0, 4, GO)]), (4, [(4, 0, GO)]), (4, [(-1, 0, GO)]), (4, [(False, 1, GO)]),
                     (4, [(0, 1, ("call", 2))]), (4, [(0, 1, ("call", -1))]), (4, [(0, 1, ("call", True))]),
                     (4, [(0, 1, ("call",))]), (4, [(0, 1, ("call", 1, 0))]), (4, [(0, 1, ["call", 1])]), (4, [(0, 1, ("call", "1"))]),
                     (4, [(0, 1, ("call", None))]), (4, [(0, 1, ("Call", 1))]), (4, [(0, 1, ("set", "y", 1))]), (4, [(0, 1)]),
                     (4, [(0, 1, ("set", "x", True))]), (4, [(0, 1, GO, 0)]), (4, [(0, 1, "call")]), (4, [(0, 1, ("back",))])):
            self.assertIs(is_bundle((names, start, [part, parts[1]])), False, part)
            self.assertIs(is_bundle((names, start, [parts[0], part])), False, part)

    def test_a_call_in_a_program_of_one_part(self):
        self.assertIs(is_bundle(AGAIN), True)
        self.assertIs(is_program((["x"], 2, [(0, 9)], AGAIN[2][0][1])), False)
        self.assertIs(is_bundle((["x"], [(0, 9)], [(2, [(0, 0, ("call", 1))])])), False)

    def test_what_is_no_bundle_is_refused(self):
        for value in (None, LOOP, INC[:2], INC[:2] + ([],), list(INC), 3):
            for function, more in ((contexts_of, (0,)), (contexts_of, (None,)), (deepest, ()), (expanded, (1,)), (bundle_tables, (1,)),
                                   (depth_for, ([], 1)), (depth_for, (None, None)), (is_walk, ([0], [])), (is_walk, (None, None)),
                                   (stands_of, ([0], []))):
                self.refused(errors.InvalidProgram, value, function, value, *more)
        for depth in (-1, True, None, "1", [1], 0.5):
            for function in (contexts_of, expanded, bundle_tables):
                self.refused(errors.InvalidNumber, depth, function, INC, depth)
            self.refused(errors.InvalidNumber, depth, depth_for, INC, [], depth)


class Walks(Case):
    def test_against_the_words(self):
        backs, calls = 0, 0
        for bundle, chance in bundles(272, 400):
            numbers, walk, stands = any_walk(chance, bundle)
            self.assertIs(is_walk(bundle, numbers, walk), True)
            self.alike(stands_of(bundle, numbers, walk), stands)
            backs += "back" in walk
            calls += any(stand[0] for stand in stands)
            able = moves_at(bundle, stands[-1])
            for move in ["back", *[(step, given) for step in range(-1, 6) for given in (None, -3, 0, 1, 5)]]:
                self.assertIs(is_walk(bundle, numbers, walk + [move]), move in able, (bundle, walk, move))
        self.assertTrue(backs > 40 and calls > 100, (backs, calls))

    def test_going_back(self):
        self.assertIs(is_walk(INC, [0], ["back"]), False)
        walk = [(0, None), (0, None), "back", (1, None), (2, None), (0, None), "back"]
        self.alike(stands_of(INC, [0], walk)[-2:], [(((0, 2),), 1, 1, [11]), ((), 0, 3, [11])])
        # At the last place of part 0 one goes back only where it was called.
        self.assertIs(is_walk(INC, [0], walk + ["back"]), False)
        self.alike(stands_of(AGAIN, [4], [(0, None), (1, None), "back", (1, None)]), [
            ((), 0, 0, [4]), (((0, 0),), 0, 0, [4]), (((0, 0),), 0, 1, [4]), ((), 0, 0, [4]), ((), 0, 1, [4])])
        self.assertIs(is_walk(AGAIN, [4], [(1, None), "back"]), False)
        deep = [(0, None)] * 50 + [(1, None), "back"] * 2
        self.alike(stands_of(AGAIN, [4], deep)[-1], (((0, 0),) * 48, 0, 0, [4]))
        self.assertIs(is_walk(INC, [0], [(0, None), "back"]), False)
        # A part of one place is left as soon as one likes, and its steps may be taken on.
        one = (["x"], [(0, 0)], [(2, [(0, 1, ("call", 1))]), (1, [(0, 0, ("add", "x", "x", 1))])])
        for many in range(4):
            self.alike(stands_of(one, [0], [(0, None)] + [(0, None)] * many + ["back"])[-1], ((), 0, 1, [many]))

    def test_parts_that_call_one_another(self):
        walk = [(0, None), (1, None), (0, None), (1, None), (2, None), "back", "back"]
        self.alike(stands_of(EACH, [1], walk), [
            ((), 0, 0, [1]), ((), 0, 1, [1]), (((0, 1),), 1, 0, [1]), (((0, 1),), 1, 1, [0]), (((0, 1), (1, 1)), 0, 0, [0]),
            (((0, 1), (1, 1)), 0, 2, [0]), (((0, 1),), 1, 2, [0]), ((), 0, 2, [0])])
        self.assertIs(is_walk(EACH, [2], walk), False)

    def test_bent_walks(self):
        for walk in (None, (), ((0, None),), [None], [[0, None]], [(0,)], [(0, None, None)], [(0, 0)], [(True, None)], [(False, None)],
                     ["Back"], [("back",)], [(0, None), "back", "back"], ["back", None], [(1, None)], {}, "back", [""], [(3, None)]):
            self.assertIs(is_walk(INC, [0], walk), False, walk)
            self.refused(errors.InvalidRun, walk, stands_of, INC, [0], walk)
        into = (["x"], [(0, 0)], [(2, [(0, 1, ("input", "x", (2, None)))])])
        self.alike([is_walk(into, [0], [(0, number)]) for number in (2, FAR, 1, None, True)], [True, True, False, False, False])

    def test_numbers_that_the_start_does_not_hold(self):
        for numbers in ([1], [-1], [], [0, 0], (0,), None, [None], [True], [False], ["0"], 0, {}):
            self.refused(errors.InvalidState, numbers, is_walk, INC, numbers, [])
            self.refused(errors.InvalidState, numbers, stands_of, INC, numbers, None)

    def test_no_list_is_handed_out_twice(self):
        numbers = [0]
        stands = stands_of(INC, numbers, [(0, None), (0, None), "back"])
        for stand in stands:
            stand[3].append("changed")
        self.alike(numbers, [0])
        self.alike([len(stand[3]) for stand in stands], [2] * 4)


class Contexts(Case):
    def by_words(self, bundle, depth):
        found = [(0, ())]
        for part, calls in found:
            for step, (_, _, deed) in enumerate(bundle[2][part][1]):
                if deed[0] == "call":
                    last = list(calls + ((part, step),))
                    while len(last) > depth:
                        last.pop(0)
                    if (deed[1], tuple(last)) not in found:
                        found.append((deed[1], tuple(last)))
        return sorted(found)

    def test_against_the_words(self):
        for bundle, chance in bundles(273, 200):
            for depth in range(4):
                self.alike(contexts_of(bundle, depth), self.by_words(bundle, depth))

    def test_depths(self):
        self.alike(contexts_of(INC, 0), [(0, ()), (1, ())])
        for depth in (1, 2, 6, FAR):
            self.alike(contexts_of(INC, depth), [(0, ()), (1, ((0, 0),)), (1, ((0, 2),))])
        self.alike(contexts_of(TWO, 1), [(0, ()), (1, ((0, 1),)), (1, ((0, 3),)), (2, ((1, 0),))])
        self.alike(contexts_of(TWO, 2), [(0, ()), (1, ((0, 1),)), (1, ((0, 3),)), (2, ((0, 1), (1, 0))), (2, ((0, 3), (1, 0)))])
        self.alike(contexts_of(EACH, 1), [(0, ()), (0, ((1, 1),)), (1, ((0, 1),))])
        # A call behind a test that never holds comes, too.
        shut = (["x"], [(0, 0)], [(3, [(0, 1, ("from", "x", 1)), (1, 2, ("call", 1))]), (1, [])])
        self.alike(contexts_of(shut, 2), [(0, ()), (1, ((0, 1),))])

    def test_deepest(self):
        self.alike([deepest(bundle) for bundle in (INC, AGAIN, EACH, TWO, (["x"], [(0, 0)], [(1, [])]))], [1, None, None, 2, 0])
        chain = (["x"], [(0, 0)], [(2, [(0, 1, ("call", part + 1))]) for part in range(400)] + [(1, [])])
        self.alike(deepest(chain), 400)
        self.alike(deepest((["x"], [(0, 0)], [(1, []), (1, [(0, 0, ("call", 1))])])), 0)
        # A part calls itself, but is come to from part 0.
        self.alike(deepest((["x"], [(0, 0)], [(1, [(0, 0, ("call", 1))]), (1, [(0, 0, ("call", 1))])])), None)
        for bundle, _ in bundles(274, 200):
            told = deepest(bundle)
            lengths = [max(len(calls) for _, calls in contexts_of(bundle, depth)) for depth in range(6)]
            self.alike(told, max(lengths) if max(lengths) < 5 else None)


class Expanded(Case):
    def test_step_by_step(self):
        program, homes = expanded(INC, 1)
        first, second = ((0, 0),), ((0, 2),)
        self.alike(homes, [(0, 0, ()), (0, 1, ()), (0, 2, ()), (0, 3, ()), (1, 0, first), (1, 0, second), (1, 1, first), (1, 1, second)])
        self.alike(program, (["x"], 8, [(0, 0)], [
            (0, 4, GO), (6, 1, GO), (1, 2, ("set", "x", 10)), (2, 5, GO), (7, 3, GO), (4, 6, ("add", "x", "x", 1)),
            (5, 7, ("add", "x", "x", 1))]))
        program, homes = expanded(AGAIN, 0)
        self.alike([program, homes], [(["x"], 2, [(0, 9)], [(0, 0, GO), (1, 0, GO), (0, 1, GO)]), [(0, 0, ()), (0, 1, ())]])
        program, homes = expanded(AGAIN, 1)
        self.alike(homes, [(0, 0, ()), (0, 0, ((0, 0),)), (0, 1, ()), (0, 1, ((0, 0),))])
        self.alike(program[3], [(0, 1, GO), (3, 0, GO), (0, 2, GO), (1, 1, GO), (3, 1, GO), (1, 3, GO)])

    def by_words(self, bundle, depth):
        contexts = contexts_of(bundle, depth)
        homes = sorted((part, place, calls) for part, calls in contexts for place in range(bundle[2][part][0]))
        steps = []
        for part, calls in contexts:
            for number, (source, target, deed) in enumerate(bundle[2][part][1]):
                here, there = homes.index((part, source, calls)), homes.index((part, target, calls))
                if deed[0] != "call":
                    steps.append((here, there, deed))
                    continue
                inner = calls + ((part, number),)
                inner = inner[len(inner) - depth:] if depth < len(inner) else inner
                last = bundle[2][deed[1]][0] - 1
                steps.append((here, homes.index((deed[1], 0, inner)), GO))
                steps.append((homes.index((deed[1], last, inner)), there, GO))
        return (bundle[0], len(homes), bundle[1], steps), homes

    def test_against_the_words(self):
        for bundle, _ in bundles(275, 150):
            for depth in range(4):
                if few_homes(bundle, depth, 60):
                    told = expanded(bundle, depth)
                    self.alike(told, self.by_words(bundle, depth))
                    self.assertIs(is_program(told[0]), True)
                    self.alike(told[1][0], (0, 0, ()))

    def test_walks_are_home_by_home_runs(self):
        walked = 0
        for bundle, chance in bundles(276, 150):
            for depth in range(4):
                if not few_homes(bundle, depth, 60):
                    continue
                program, homes = expanded(bundle, depth)
                for _ in range(3):
                    numbers, walk, stands = any_walk(chance, bundle)
                    at = []
                    for calls, part, place, held in stands:
                        at.append((homes.index((part, place, calls[max(0, len(calls) - depth):])), held))
                    moves = []
                    for (source, _), (target, held), move in zip(at, at[1:], walk):
                        number = None if move == "back" else move[1]
                        fitting = [(step, number) for step, (one, other, _) in enumerate(program[3]) if (one, other) == (source, target)]
                        ahead = len(moves) + 1
                        moves.append([told for told in fitting if is_run(program, (numbers, [*moves, told])) and states_of(
                            program, (numbers, [*moves, told]))[ahead] == (target, held)][0])
                    self.alike(states_of(program, (numbers, moves)), at)
                    walked += len(moves)
        self.assertGreater(walked, 2000)

    def test_as_deep_as_calls_go_there_are_no_others(self):
        """Each run of the expanded program is then a walk, and deeper ones are the same."""
        for bundle, chance in bundles(277, 150, deeper=(False,)):
            deep = deepest(bundle)
            if not few_homes(bundle, deep):
                continue
            program, homes = expanded(bundle, deep)
            self.alike(expanded(bundle, deep + 3), (program, homes))
            numbers = [chance.randint(low, high) for low, high in bundle[1]]
            place, walk = 0, []
            run = (numbers, [])
            for _ in range(10):
                state = states_of(program, run)[-1]
                moves = [(step, number) for step in range(len(program[3])) for number in (None, -2, -1, 0, 1, 2)
                         if is_run(program, (numbers, run[1] + [(step, number)]))]
                if not moves:
                    break
                move = chance.choice(moves)
                run[1].append(move)
                home = homes[program[3][move[0]][1]]
                held = states_of(program, run)[-1][1]
                stand = stands_of(bundle, numbers, walk)[-1]
                reached = [told for told in moves_at(bundle, stand) if stand_behind(bundle, stand, told) == (
                    home[2], home[0], home[1], held)]
                self.assertTrue(reached, (bundle, run, walk))
                walk.append(reached[0])
                self.assertEqual(state[0], homes.index((stand[1], stand[2], stand[0])))
                place += 1


class Tables(Case):
    def test_against_the_least_table(self):
        nowhere = 0
        for bundle, _ in bundles(278, 150):
            for depth in range(3):
                if not few_homes(bundle, depth):
                    continue
                program, homes = expanded(bundle, depth)
                expected = [[None] * many for many, _ in bundle[2]]
                for (part, place, _), row in zip(homes, least_table(program)):
                    if row is not None:
                        old = expected[part][place]
                        expected[part][place] = row if old is None else row_joined(program, old, row)
                self.alike(bundle_tables(bundle, depth), expected)
                nowhere += any(None in table for table in expected)
        self.assertGreater(nowhere, 100)

    def test_never_wider_with_more_depth_and_every_walk_stays(self):
        narrower = 0
        for bundle, chance in bundles(279, 200):
            tables = [bundle_tables(bundle, depth) for depth in range(4) if few_homes(bundle, depth)]
            program = (bundle[0], 1, bundle[1], [])
            for one, other in zip(tables, tables[1:]):
                for row, deeper in zip(sum(one, []), sum(other, [])):
                    self.assertTrue(deeper is None or (row is not None and row_within(program, deeper, row)))
                narrower += one != other
            for _ in range(5):
                for calls, part, place, numbers in any_walk(chance, bundle)[2]:
                    for told in tables:
                        self.assertTrue(row_within(program, [(number, number) for number in numbers], told[part][place]))
        self.assertGreater(narrower, 10)

    def test_told_ones(self):
        self.alike(bundle_tables(TWO, 0)[3], [None, None])
        self.alike(bundle_tables(TWO, 0)[0][2], [(1, 5), (4, 8)])
        self.alike(bundle_tables(TWO, 1)[0][2], [(1, 5), (4, 8)])
        self.alike(bundle_tables(TWO, 2)[0][2], [(1, 1), (4, 4)])
        self.alike(bundle_tables(TWO, FAR)[0][4], [(5, 5), (8, 8)])
        self.alike(bundle_tables(AGAIN, 3), [[[(0, 9)], [(0, 9)]]])
        # A bundle of one part without calls has the table of this program.
        self.alike(bundle_tables((["i"], [(0, 0)], [LOOP[1::2]]), 2), [least_table(LOOP)])


class DepthFor(Case):
    def test_against_the_tables(self):
        told = {"0": 0, "more": 0, "none": 0}
        for bundle, chance in bundles(280, 300):
            depths = [depth for depth in range(4) if few_homes(bundle, depth)]
            tables = [bundle_tables(bundle, depth) for depth in depths]
            wishes = []
            for _ in range(chance.randint(0, 2)):
                all_places = [(part, place) for part, (many, _) in enumerate(bundle[2]) for place in range(many)]
                unlike = [(part, place) for part, place in all_places if tables[0][part][place] != tables[-1][part][place]]
                part, place = chance.choice(unlike or all_places)
                row = chance.choice(tables)[part][place]
                wishes.append((part, place, [any_span(chance) for _ in bundle[0]] if row is None or chance.random() < 0.2 else row))
            program = (bundle[0], 1, bundle[1], [])
            holds = [all(table[part][place] is None or row_within(program, table[part][place], row) for part, place, row in wishes)
                     for table in tables]
            # A wish goes on holding with more depth.
            self.assertEqual(holds, sorted(holds))
            for most in depths:
                expected = ([depth for depth in depths if holds[depth] and depth <= most] + [None])[0]
                self.alike(depth_for(bundle, wishes, most), expected)
            told["0" if holds[0] else "more" if holds[-1] else "none"] += 1
        self.assertTrue(told["0"] > 100 and told["more"] > 8 and told["none"] > 20, told)

    def test_told_ones(self):
        exact = [(0, 2, [(1, 1), (4, 4)])]
        self.alike([depth_for(TWO, exact, most) for most in (0, 1, 2, 3, FAR)], [None, None, 2, 2, 2])
        self.alike([depth_for(TWO, [], most) for most in (0, FAR)], [0, 0])
        self.alike(depth_for(TWO, exact + [(2, 0, [(5, 5), (None, None)])], FAR), None)
        # What is never called is never come to.
        self.alike(depth_for(TWO, [(3, 0, [(7, 7), (7, 7)])], 0), 0)
        self.alike(depth_for(INC, [(0, 3, [(11, 11)]), (0, 1, [(None, 5)])], 1), 1)
        self.alike(depth_for(AGAIN, [(0, 1, [(0, 8)])], 6), None)

    def test_what_are_no_wishes(self):
        for wishes in (None, (), [None], [(0, 3)], [[0, 3, [(0, 0)]]], [(2, 0, [(0, 0)])], [(0, 4, [(0, 0)])], [(-1, 0, [(0, 0)])],
                       [(True, 0, [(0, 0)])], [(0, False, [(0, 0)])], [(0, 0, [])], [(0, 0, [(0, 0)] * 2)], [(0, 0, ((0, 0),))],
                       [(0, 0, None)], [(0, 0, [(1, 0)])], [(0, 0, [None])], [(0, 0, [(0, 0)], 0)], [(0, 0, [(0, 0)]), None],
                       [("0", 0, [(0, 0)])], [(1, 2, [(0, 0)])], {}, 3):
            self.refused(errors.InvalidWish, wishes, depth_for, INC, wishes, 1)
            self.refused(errors.InvalidWish, wishes, depth_for, INC, wishes, None)

    def test_within_seconds_up_to_the_limits(self):
        names = ["a", "b", "c", "d", "e"]
        chance = dice(281)
        began = time.perf_counter()
        for _ in range(10):
            parts = [(6, [(at % 6, (at + 1) % 6, any_deed(chance, names, -FAR, FAR, 0.1)) for at in range(7)] + [(0, 5, ("call", part + 1))])
                     for part in range(3)]
            bundle = (names, [(0, 0)] * 5, parts + [(6, [(at % 6, (at + 1) % 6, any_deed(chance, names, -FAR, FAR)) for at in range(8)])])
            self.assertEqual(len(expanded(bundle, 6)[1]), 24)
            before = copied(bundle)
            bundle_tables(bundle, 6)
            depth_for(bundle, [(0, 0, [(0, 0)] * 5)], 6)
            self.alike(bundle, before)
        recursive = (names, [(0, 0)] * 5, [(4, [(0, 1, ("call", 0)), (1, 2, ("add", "a", "b", FAR)), (2, 3, ("greatest", "b", "a", "c")),
                                                (0, 3, ("input", "b", (None, 3)))])])
        self.assertEqual(len(expanded(recursive, 6)[1]), 28)
        depth_for(recursive, [(0, 0, [(0, 0)] * 4 + [(1, 1)])], 6)
        self.assertLess(time.perf_counter() - began, 30)
