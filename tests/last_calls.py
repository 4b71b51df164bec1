"""What tests/calls.py tells, of the modules behind: rounds, leaps, asking, blame, comparing, needless, shapes, calls, live."""

from stillranges import asking, blame, calls, comparing, errors, leaps, live, needless, rounds, shapes
from tests.calls import ANY, COUNT, DEED, FULL, HIGH, LOOP_TABLE, NAME, PROGRAM, SPAN, beside, wrong
from tests.helpers import JUNK, LOOP, copied
from tests.later_calls import CLAIM, LEAST, OF_ONE, STEPS

INC = (["x"], [(0, 0)], [(4, [(0, 1, ("call", 1)), (1, 2, ("set", "x", 10)), (2, 3, ("call", 1))]), (2, [(0, 1, ("add", "x", "x", 1))])])
WALK = [(0, None), (0, None), "back", (1, None)]
WISH_HERE = [[(None, 10)], [(0, 9)], [(None, None)]]
INPUTS = (["x"], 3, [(0, 5)], [(0, 1, ("go",)), (1, 2, ("input", "x", (-9, 20))), (2, 1, ("turn", "x", "x", 3)), (0, 2, ("go",))])
FREE = [[(None, None)], [(-17, 17)], [(None, None)]]
FEWER = copied(LOOP[:3] + (LOOP[3][:2],))

LOOP_PLACES = wrong(errors.InvalidPlace, [[], [1]], [[1, 0], [0, 0], (0, 1), [3], [-1], [False], [0, True], [0, "1"], [0, None]])
# The ring of the loop goes through the places 0 and 1.
CUTTING = wrong(errors.InvalidPlace, [[], [1]], LOOP_PLACES[1][-9:])
THRESHOLDS = wrong(errors.InvalidNumber, [[], [1]], [[1, 0], [0, 0], (0, 1), [False], [0, True], [0, "1"], [0, None]])
NOT_KEPT = (errors.InvalidTable, LOOP_TABLE[1] + [[None] * 3, [[(0, 9)], [(0, 9)], None], [[(0, 10)], None, [(10, 10)]]])
WISH = wrong(errors.InvalidWish, [], [[None] * 2, [None] * 4, (None,) * 3, [[(0, 0)] * 2, None, None], [[(2, 1)], None, None]])
FRONT = wrong(errors.InvalidPlace, [1, 2], [0, 4, "1"])
TEST = (errors.InvalidDeed, DEED[1] + [("go",), ("set", "x", 1), ("input", "x", (0, 1)), ("least", "x", "y", "z")])
SIDE = wrong(errors.InvalidBound, ["low", "high"], ["Low", ["low"], ("high",)])
INPUT = wrong(errors.InvalidStep, [1], [0, 2, 3, 4, "1"])
END = wrong(errors.InvalidNumber, [None, 0, 1, -1, 2, 10 ** 29, -10 ** 29], ["0", (0, 1)])
ONE = wrong(errors.InvalidPlace, [0, 1, 2], [4, "0"])
OTHER = wrong(errors.InvalidPlace, [2], [4, "2"])
INTO = wrong(errors.InvalidStep, [[]], [[2, 0], [0, 0], (0,), [1], [0, 1], [0, 20], [False], [0, None]])
BUNDLE = wrong(errors.InvalidProgram, [], [
    INC[:2], list(INC), INC[:2] + ([],), INC[:2] + ([(4, [(0, 1, ("call", 2))]), INC[2][1]],), INC + ([],), LOOP])
NUMBERS_HELD = wrong(errors.InvalidState, [], [[1], [0, 0], (0,), [False], [None]])
WALK_HERE = wrong(errors.InvalidRun, [[]], [["back"], [(0, None), "back"], [(0, 0)], ((0, None),), [[0, None]], [(False, None)]])
BUNDLE_WISHES = wrong(errors.InvalidWish, [[]], [
    [(2, 0, [(0, 0)])], [(0, 4, [(0, 0)])], [(0, 0, [])], [[0, 0, [(0, 0)]]], ((0, 0, [(0, 0)]),), [(True, 0, [(0, 0)])]])
NO_CHECKER = (errors.InvalidEdit, [value for value in JUNK if not isinstance(value, live.LiveChecker)] + [LOOP, live.LiveChecker])

OF_LEAPS = (["program", "places", "thresholds"], [PROGRAM, CUTTING, THRESHOLDS])
OF_KEPT = (["program", "table"], [PROGRAM, NOT_KEPT])
OF_WISH = (["program", "wish"], [PROGRAM, WISH])
OF_PAIR = (["program", "other"], [PROGRAM, PROGRAM])
OF_STEPS = (["program", "steps"], [PROGRAM, STEPS])
OF_BUNDLE = (["bundle", "depth"], [BUNDLE, COUNT])
OF_WALK = (["bundle", "numbers"], [BUNDLE, NUMBERS_HELD])

ROUNDS = [
    (rounds.table_behind, (FULL, 5), (["program", "many"], [PROGRAM, COUNT])),
    (rounds.told_endless, ((["x", "y"], 2, [(None, None), (0, 0)], [(0, 1, ("add", "y", "x", 1))]),), OF_ONE),
    (rounds.rests, (LOOP,), OF_ONE),
    (rounds.rounds_to_rest, (LOOP,), OF_ONE),
]
LEAPS = [
    (leaps.cuts_rings, (LOOP, [1]), (["program", "places"], [PROGRAM, LOOP_PLACES])),
    (leaps.with_leaps, (LOOP, [0], [0, 10, 50]), OF_LEAPS),
    (leaps.leap_rounds, (LOOP, [0], [0, 10, 50]), OF_LEAPS),
    (leaps.going_down, (LOOP, [[(0, None)], [(0, 9)], [(10, None)]], 1), beside(OF_KEPT, "many", COUNT)),
    (leaps.stands_still, (LOOP, LEAST), OF_KEPT),
    (leaps.lost, (LOOP, [[(0, None)], [(0, 9)], [(10, None)]]), OF_KEPT),
    (leaps.places_lost, (LOOP, LEAST), OF_KEPT),
]
ASKING = [
    (asking.wish_holds, (LOOP, WISH_HERE), OF_WISH),
    (asking.broken_at, (LOOP, [None, [(0, 8)], [(10, None)]]), OF_WISH),
    (asking.guarded, (FULL, 1, ("below", "x", "y", 3)), (["program", "place", "deed"], [PROGRAM, FRONT, TEST])),
    (asking.widest_test, (INPUTS, 2, "x", "high", [[(None, None)], [(-10, 17)], [(None, None)]]), (
        ["program", "place", "name", "side", "wish"], [PROGRAM, FRONT, NAME, SIDE, WISH])),
    (asking.with_input, (INPUTS, 1, (0, None)), (["program", "step", "span"], [PROGRAM, INPUT, SPAN])),
    (asking.widest_input, (INPUTS, 1, FREE, -9), (["program", "step", "wish", "low"], [PROGRAM, INPUT, WISH, END])),
    (asking.with_start, (FULL, "x", (0, None)), (["program", "name", "span"], [PROGRAM, NAME, SPAN])),
    (asking.widest_start, (INPUTS, "x", FREE, 0), (["program", "name", "wish", "low"], [PROGRAM, NAME, WISH, END])),
]
BLAME = [
    (blame.with_only, (FULL, [0, 3, 19]), (["program", "chosen"], [PROGRAM, STEPS])),
    (blame.blame_for, (LOOP, HIGH, 9), CLAIM),
    (blame.is_blame, (LOOP, HIGH, 9, [0, 1]), beside(CLAIM, "value", ANY)),
    (blame.cure_for, (LOOP, HIGH, 9), CLAIM),
    (blame.is_cure, (LOOP, HIGH, 9, [1]), beside(CLAIM, "value", ANY)),
    (blame.all_blames, (LOOP, HIGH, 9), CLAIM),
    (blame.all_cures, (LOOP, HIGH, 9), CLAIM),
]
COMPARING = [
    (comparing.same_table, (FULL, copied(FULL)), OF_PAIR),
    (comparing.first_unlike_place, (LOOP, FEWER), OF_PAIR),
    (comparing.is_wider, (LOOP, FEWER), OF_PAIR),
]
NEEDLESS = [
    (needless.without_steps, (FULL, [0, 3, 19]), OF_STEPS),
    (needless.is_needless, (FULL, [0, 3, 19]), OF_STEPS),
    (needless.needless_steps, (FULL,), OF_ONE),
    (needless.kept_lot, (FULL,), OF_ONE),
    (needless.is_kept_lot, (LOOP, [0, 1, 2]), (["program", "value"], [PROGRAM, ANY])),
    (needless.all_kept_lots, (LOOP,), OF_ONE),
]
SHAPES = [
    (shapes.joined_places, (FULL, 1, 3), (["program", "one", "other"], [PROGRAM, ONE, OTHER])),
    (shapes.split_place, (FULL, 1, [0, 6, 12]), (["program", "place", "steps"], [PROGRAM, ONE, INTO])),
]
CALLS = [
    (calls.is_bundle, (INC,), (["value"], [ANY])),
    (calls.is_walk, (INC, [0], WALK), beside(OF_WALK, "value", ANY)),
    (calls.stands_of, (INC, [0], WALK), beside(OF_WALK, "walk", WALK_HERE)),
    (calls.contexts_of, (INC, 1), OF_BUNDLE),
    (calls.deepest, (INC,), (["bundle"], [BUNDLE])),
    (calls.expanded, (INC, 1), OF_BUNDLE),
    (calls.bundle_tables, (INC, 1), OF_BUNDLE),
    (calls.depth_for, (INC, [(0, 3, [(11, 11)]), (1, 0, [(0, 10)])], 3), (
        ["bundle", "wishes", "most"], [BUNDLE, BUNDLE_WISHES, COUNT])),
]
LIVE = [
    (live.is_edit, (live.LiveChecker(LOOP), ("put", 3, (2, 2, ("input", "i", (1, None))))), (
        ["live", "value"], [NO_CHECKER, ANY])),
]
MODULES = [(rounds, ROUNDS), (leaps, LEAPS), (asking, ASKING), (blame, BLAME), (comparing, COMPARING), (needless, NEEDLESS),
           (shapes, SHAPES), (calls, CALLS), (live, LIVE)]
