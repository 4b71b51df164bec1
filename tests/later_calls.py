"""What tests/calls.py tells, of the modules behind: plans, least, hulls, turned, papers, lots, games, widths, checks."""

from stillranges import checks, errors, games, hulls, least, lots, papers, plans, turned, widths
from tests.calls import (
    ANY, COME_TO, COUNT, FULL, HIGH, LOOP_OPENED, LOOP_TABLE, NAME, NUMBER, OF_OPEN, OF_OPTIONS, OF_PHASE, OF_PLAN,
    OF_PROGRAM, OF_STEP, OF_TABLE, PLACE, PLAN, PLAN_HERE, PROGRAM, RING_HERE, RUN, RUN_HERE, SPAN, TABLE_HERE,
    VALUES, beside, wrong)
from tests.helpers import LOOP, copied

LOW_PLAN = [(None, 0), (None, 0), (0, 0), (0, 0)]
LEAST = [[(0, 10)], [(0, 9)], [(10, 10)]]
LOOP_VALUES = [10, 0, 9, 0, 10, -10]
LOOP_PAPER = [((1, 0), 10, 1), ((None, 0), 0, 0), ((0, 0), 9, 0), ((0, 0), 0, 1), ((2, 0), 10, 2), ((2, 0), -10, 0)]
FIRST_PAPER = [((None, 0), 0, 0), ((None, 0), 0, 0), ((0, 0), 0, 1), ((0, 0), 0, 1)]
OPENINGS = [([0], [[(0, 0)], [(0, 0)], None]), ([0, 1], [[(0, 10)], [(0, 9)], None]), ([0, 1, 2], LEAST)]
PROOF = [OPENINGS[0] + (FIRST_PAPER,), OPENINGS[1] + (LOOP_PAPER[:4],), OPENINGS[2] + (LOOP_PAPER,)]
ROUND = (["x"], 2, [(0, 1)], [(0, 1, ("go",)), (1, 0, ("turn", "x", "x", 1))])

OF_ONE = (["program"], [PROGRAM])
TURNS = wrong(errors.InvalidPlan, [], [
    [(HIGH, (None, 0))], [((0, "i", "low"), (1, 0))], [(HIGH, (1, 0)), (HIGH, (1, 0))], ((HIGH, (1, 0)),),
    [[HIGH, (1, 0)]], [(HIGH, (1, 0), 0)], [(HIGH, [1, 0])], [(HIGH, (True, 0))], [(HIGH, (1, False))],
    [((False, "i", "high"), (1, 0))], [((2, "i", "high"), (2, 0))], [(HIGH, (1, 0)), None]])
MORE = wrong(errors.InvalidOpen, [], [[0, 0], [1, 0], (0, 1), [0, 3], [False], [1], [1, 2], [2], [0, None]])
PICKS = wrong(errors.InvalidNumber, [[], [1]], [[0, -1], (0, 1), [0, True], [0, "1"], [[0]]])
FACTOR = wrong(errors.InvalidNumber, [1, 2, 10 ** 29], [-2])
STATES = wrong(errors.InvalidState, [[]], [
    [(0, [0, 0, 0]), (4, [0, 0, 0])], [(0, [0, 0])], ((0, [0, 0, 0]),), [(0, (0, 0, 0))], [[0, [0, 0, 0]]],
    [(0, [0, 0, True])], [(False, [0, 0, 0])]])
PLACES = wrong(errors.InvalidPlace, [], [
    [0, 1, 2], [0, 1, 2, 3, 4], [0, 1, 2, 2], [1, 0, 2, 3], (0, 1, 2, 3), [0, 1, 2, 4], [0, True, 2, 3],
    [False, 1, 2, 3], [0, 1, 2, 3, 3], [3, 2, 1, 0]])
NEW_NAMES = wrong(errors.InvalidName, [], [
    ["a", "b"], ["a", "b", "c", "d"], ["a", "b", "b"], ("a", "b", "c"), ["a", "b", "C"], ["a", "b", ""],
    ["a", "b", None], ["a", "b", "c01"]])
ORDER = wrong(errors.InvalidStep, [], [
    list(range(19)), list(range(21)), [0] + list(range(19)), tuple(range(20)), list(range(1, 21)),
    [False] + list(range(1, 20)), list(range(19)) + [18], list(range(20)) + [0], list(range(19)) + ["19"]])
ALL_OPENED = wrong(errors.InvalidOpen, [[]], LOOP_OPENED[1][-9:])
ALL_VALUES = wrong(errors.InvalidTable, [], [[0] * 5, [0] * 7, (0,) * 6, [0] * 5 + [True], [0] * 5 + ["nothing"]])
CLAIM = (["program", "bound", "number"], [PROGRAM, wrong(errors.InvalidBound, [], COME_TO[1][-3:]), NUMBER])

PLANS = [
    (plans.values_of, (LOOP, [0, 1], PLAN_HERE), OF_PLAN),
    (plans.road_of, (LOOP, [0, 1], HIGH, PLAN_HERE), beside(OF_OPTIONS, "plan", PLAN)),
    (plans.is_road, (LOOP, [0, 1], HIGH, PLAN_HERE, RING_HERE), beside(beside(OF_OPTIONS, "plan", PLAN), "value", ANY)),
    (plans.gains, (LOOP, [0, 1], LOW_PLAN), OF_PLAN),
    (plans.turned, (LOOP, [0, 1], LOW_PLAN, [(HIGH, (1, 0))]), beside(OF_PLAN, "turns", TURNS)),
    (plans.first_plan, (LOOP, [0, 1]), OF_OPEN),
    (plans.row_of_plans, (LOOP, [0, 1], LOW_PLAN), OF_PLAN),
    (plans.is_row_of_plans, (LOOP, [0, 1], [LOW_PLAN, PLAN_HERE]), OF_PHASE),
    (plans.rest_of, (LOOP, [0, 1]), OF_OPEN),
    (plans.carried, (LOOP, [0], [0, 1], LOW_PLAN), beside(beside(OF_OPEN, "more", MORE), "plan", PLAN)),
    (plans.widened, (FULL, 3), (["program", "number"], [PROGRAM, COUNT])),
]
LEAST_CALLS = [
    (least.least_table, (FULL,), OF_ONE),
    (least.is_least, (LOOP, LEAST), OF_PROGRAM),
    (least.range_at, (FULL, 1, "x"), (["program", "place", "name"], [PROGRAM, PLACE, NAME])),
    (least.reached_places, (FULL,), OF_ONE),
    (least.openings, (LOOP,), OF_ONE),
    (least.openings_by, (FULL, [1, 0, 7]), (["program", "picks"], [PROGRAM, PICKS])),
    (least.is_openings, (LOOP, OPENINGS), OF_PROGRAM),
    (least.greatest_told, (FULL,), OF_ONE),
    (least.end_limit, (FULL,), OF_ONE),
]
HULLS = [
    (hulls.hull_of, (FULL, [(0, [0, 1, 2]), (3, [0, 0, 0]), (0, [-4, 0, 7])]), (["program", "states"], [PROGRAM, STATES])),
    (hulls.hull, (FULL, 2), (["program", "most"], [PROGRAM, COUNT])),
    (hulls.whole_hull, (LOOP,), OF_ONE),
    (hulls.lost_bounds, (LOOP,), OF_ONE),
    (hulls.run_to_bound, (LOOP, HIGH), (CLAIM[0][:2], CLAIM[1][:2])),
    (hulls.is_round, (ROUND, (([0], [(0, None)]), [(1, None), (0, None), (1, None), (0, None)])), OF_PROGRAM),
    (hulls.any_round, (ROUND,), OF_ONE),
    (hulls.most_moves, (LOOP,), OF_ONE),
]
TURNED = [
    (turned.scaled, (FULL, 3), (["program", "factor"], [PROGRAM, FACTOR])),
    (turned.scaled_table, (FULL, TABLE_HERE, 3), beside(OF_TABLE, "factor", FACTOR)),
    (turned.moved, (FULL, -3), (["program", "number"], [PROGRAM, NUMBER])),
    (turned.moved_table, (FULL, TABLE_HERE, -3), beside(OF_TABLE, "number", NUMBER)),
    (turned.mirrored, (FULL,), OF_ONE),
    (turned.mirrored_table, (FULL, TABLE_HERE), OF_TABLE),
    (turned.with_places, (FULL, [0, 3, 1, 2]), (["program", "places"], [PROGRAM, PLACES])),
    (turned.with_places_table, (FULL, TABLE_HERE, [0, 3, 1, 2]), beside(OF_TABLE, "places", PLACES)),
    (turned.with_names, (FULL, ["b", "c", "a"]), (["program", "names"], [PROGRAM, NEW_NAMES])),
    (turned.with_names_table, (FULL, TABLE_HERE, ["b", "c", "a"]), beside(OF_TABLE, "names", NEW_NAMES)),
    (turned.with_steps, (FULL, list(range(19, -1, -1))), (["program", "order"], [PROGRAM, ORDER])),
]
PAPERS = [
    (papers.is_paper, (LOOP, [0, 1, 2], LOOP_VALUES, LOOP_PAPER), (
        ["program", "opened", "values", "value"], [PROGRAM, ALL_OPENED, ALL_VALUES, ANY])),
    (papers.paper_of, (LOOP, [0, 1]), OF_OPEN),
    (papers.is_proof, (LOOP, PROOF[:1]), OF_PROGRAM),
    (papers.is_proof_of, (LOOP, LEAST, copied(PROOF)), (["program", "table", "value"], [PROGRAM, LOOP_TABLE, ANY])),
    (papers.proof_of, (LOOP,), OF_ONE),
    (papers.is_shown, (LOOP, HIGH, 9), CLAIM),
    (papers.answer_to, (LOOP, HIGH, 9), CLAIM),
    (papers.is_answer, (LOOP, HIGH, 10, ("yes", LEAST)), beside(CLAIM, "value", ANY)),
]
WIDER = [[(0, 12)], [(0, 9)], [(10, 12)]]
ENDLESS = [[(0, None)], [(0, 9)], [(10, None)]]
BOTH = [(0, "i", "high"), (2, "i", "high")]
REPLY_HERE = [[0, 0], [0, 0], [1], [0]]
OF_LOOP_TABLE = (["program", "table"], [PROGRAM, LOOP_TABLE])
LOT = wrong(errors.InvalidBound, [], [
    BOTH[::-1], BOTH + BOTH[1:], tuple(BOTH), [list(bound) for bound in BOTH], [(3, "i", "high")], [(0, "x", "high")],
    [(False, "i", "high")], BOTH + [None], BOTH[0]])
REPLY = wrong(errors.InvalidPlan, [], [
    [[0, 0], [0, 0], [1]], [[0, 0], [0, 0], [1], [0], []], ((0, 0), (0, 0), (1,), (0,)), [[0, 0], [0, 1], [1], [0]],
    [[0, 0], [0, 0], [2], [0]], [[0, 0], [0, 0], [True], [0]], [[0, 0], [0, 0], [-1], [0]], [[0], [0, 0], [1], [0]],
    [[0, 0], [0, 0], [1, 0], [0]], [[0, 0], [0, 0], [None], [0]], [[0, 0], [0, 0], (1,), [0]]])
KEPT_VALUES = wrong(errors.InvalidTable, [], VALUES[1][-5:] + [[9, 0, 9, 0], [10, -1, 9, 0], [0, 0, 0, 0]])
WIDTH = wrong(errors.InvalidWidth, [1, 2, 10 ** 29], ["8", [8]])
STEPS = wrong(errors.InvalidStep, [[], [1]], [[1, 0], [0, 0], (0, 1), [0, 20], [-1, 0], [False], [0, True], [0, "1"], [0, None]])
USES = wrong(errors.InvalidWish, [[]], [
    [(0, "x", -1)], [(4, "x", 3)], [(0, "w", 3)], [[0, "x", 3]], ((0, "x", 3),), [(0, "x", True)], [(False, "x", 3)],
    [(0, "x", 3), None], [(0, "x")], [(0, "x", 3, 0)], [(0, "x", "3")]])
OF_WIDTH = (["program", "width"], [PROGRAM, WIDTH])

LOTS = [
    (lots.is_level, (LOOP, WIDER), OF_LOOP_TABLE),
    (lots.can_be_lowered, (LOOP, WIDER, BOTH), beside(OF_LOOP_TABLE, "lot", LOT)),
    (lots.lowered_by, (LOOP, WIDER, BOTH), beside(OF_LOOP_TABLE, "lot", LOT)),
    (lots.greatest_lot, (LOOP, WIDER), OF_LOOP_TABLE),
    (lots.lowest, (LOOP, WIDER), OF_LOOP_TABLE),
    (lots.rounds_down, (LOOP, WIDER), OF_LOOP_TABLE),
    (lots.is_fall, (LOOP, ENDLESS, [(BOTH[0], 0), (BOTH[1], 1)]), beside(OF_LOOP_TABLE, "value", ANY)),
    (lots.greatest_fall, (LOOP, ENDLESS), OF_LOOP_TABLE),
    (lots.why_not_least, (LOOP, ENDLESS), OF_LOOP_TABLE),
]
GAMES = [
    (games.is_reply, (LOOP, [0, 1], REPLY_HERE), OF_PHASE),
    (games.play, (LOOP, [0, 1], HIGH, PLAN_HERE, REPLY_HERE), beside(beside(OF_OPTIONS, "plan", PLAN), "reply", REPLY)),
    (games.sure_of, (LOOP, [0, 1], PLAN_HERE), OF_PLAN),
    (games.at_most_of, (LOOP, [0, 1], REPLY_HERE), beside(OF_OPEN, "reply", REPLY)),
    (games.worths, (LOOP, [0, 1]), OF_OPEN),
    (games.best_plan, (LOOP, [0, 1]), OF_OPEN),
    (games.best_reply, (LOOP, [0, 1]), OF_OPEN),
    (games.is_best_plan, (LOOP, [0, 1], PLAN_HERE), OF_PHASE),
    (games.is_best_reply, (LOOP, [0, 1], REPLY_HERE), OF_PHASE),
    (games.reply_of, (LOOP, [0, 1], [10, 0, 9, 0]), beside(OF_OPEN, "values", KEPT_VALUES)),
    (games.worths_within, (LOOP, [0, 1], 7), beside(OF_OPEN, "turns", COUNT)),
    (games.turns_for, (LOOP, [0, 1], HIGH), OF_OPTIONS),
]
WIDTHS = [
    (widths.fits, (8, 127), (["width", "number"], [WIDTH, NUMBER])),
    (widths.wrapped, (8, 128), (["width", "number"], [WIDTH, NUMBER])),
    (widths.width_of, ((-8, 7),), (["span"], [SPAN])),
    (widths.widths_of, (FULL,), OF_ONE),
    (widths.start_fits, (FULL, 3), OF_WIDTH),
    (widths.sum_range, (FULL, 2), OF_STEP),
    (widths.wants_check, (FULL, 2, 3), beside(OF_STEP, "width", WIDTH)),
    (widths.wanting, (FULL, 3), OF_WIDTH),
    (widths.is_wrapped_run, (FULL, 3, RUN_HERE), beside(OF_WIDTH, "value", ANY)),
    (widths.wrapped_states, (FULL, 3, RUN_HERE), beside(OF_WIDTH, "run", RUN)),
    (widths.first_unlike, (FULL, 3, RUN_HERE), beside(OF_WIDTH, "run", RUN)),
]
CHECKS = [
    (checks.checked_at, (FULL, 3, [0, 2, 3, 6, 19]), beside(OF_WIDTH, "steps", STEPS)),
    (checks.checked, (FULL, 3), OF_WIDTH),
    (checks.idle_checks, (FULL, 3), OF_WIDTH),
    (checks.is_enough, (FULL, 3, [0, 2, 3, 6, 19]), beside(OF_WIDTH, "steps", STEPS)),
    (checks.least_enough, (FULL, 3), OF_WIDTH),
    (checks.dead_steps, (FULL,), OF_ONE),
    (checks.idle_tests, (FULL,), OF_ONE),
    (checks.trimmed, (FULL,), OF_ONE),
    (checks.outside, (FULL, [(0, "x", 3), (3, "z", 0), (0, "x", 3)]), (["program", "uses"], [PROGRAM, USES])),
]
MODULES = [(plans, PLANS), (least, LEAST_CALLS), (hulls, HULLS), (turned, TURNED), (papers, PAPERS), (lots, LOTS),
           (games, GAMES), (widths, WIDTHS), (checks, CHECKS)]
