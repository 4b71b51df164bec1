"""What tests/calls.py tells, of the modules of the least table: plans, least, hulls, turned and papers."""

from stillranges import errors, hulls, least, papers, plans, turned
from tests.calls import (
    ANY, COME_TO, COUNT, FULL, HIGH, LOOP_OPENED, LOOP_TABLE, NAME, NUMBER, OF_OPEN, OF_OPTIONS, OF_PHASE, OF_PLAN,
    OF_PROGRAM, OF_TABLE, PLACE, PLAN, PLAN_HERE, PROGRAM, RING_HERE, TABLE_HERE, beside, wrong)
from tests.helpers import LOOP, copied

LOW_PLAN = [(None, 0), (None, 0), (0, 0), (0, 0)]
LEAST = [[(0, 10)], [(0, 9)], [(10, 10)]]
LOOP_VALUES = [10, 0, 9, 0, 10, -10]
LOOP_PAPER = [((1, 0), 10, 1), ((None, 0), 0, 0), ((0, 0), 9, 0), ((0, 0), 0, 1), ((2, 0), 10, 2), ((2, 0), -10, 0)]
FIRST_PAPER = [((None, 0), 0, 0), ((None, 0), 0, 0), ((0, 0), 0, 1), ((0, 0), 0, 1)]
OPENINGS = [([0], [[(0, 0)], [(0, 0)], None]), ([0, 1], [[(0, 10)], [(0, 9)], None]), ([0, 1, 2], LEAST)]
PROOF = [OPENINGS[0] + (FIRST_PAPER,), OPENINGS[1] + (LOOP_PAPER[:4],), OPENINGS[2] + (LOOP_PAPER,)]
ROUND = (["x"], 2, [(0, 1)], [(0, 1, ("go",)), (1, 0, ("turn", "x", "x", 1))])

OF_ONE = (["program"], [PROGRAM])
TURNS = wrong(errors.InvalidPlan, [], [
    [(HIGH, (None, 0))], [((0, "i", "low"), (1, 0))], [(HIGH, (1, 0)), (HIGH, (1, 0))], ((HIGH, (1, 0)),),
    [[HIGH, (1, 0)]], [(HIGH, (1, 0), 0)], [(HIGH, [1, 0])], [(HIGH, (True, 0))], [(HIGH, (1, False))],
    [((False, "i", "high"), (1, 0))], [((2, "i", "high"), (2, 0))], [(HIGH, (1, 0)), None]])
MORE = wrong(errors.InvalidOpen, [], [[0, 0], [1, 0], (0, 1), [0, 3], [False], [1], [1, 2], [2], [0, None]])
PICKS = wrong(errors.InvalidNumber, [[], [1]], [[0, -1], (0, 1), [0, True], [0, "1"], [[0]]])
FACTOR = wrong(errors.InvalidNumber, [1, 2, 10 ** 29], [-2])
STATES = wrong(errors.InvalidState, [[]], [
    [(0, [0, 0, 0]), (4, [0, 0, 0])], [(0, [0, 0])], ((0, [0, 0, 0]),), [(0, (0, 0, 0))], [[0, [0, 0, 0]]],
    [(0, [0, 0, True])], [(False, [0, 0, 0])]])
PLACES = wrong(errors.InvalidPlace, [], [
    [0, 1, 2], [0, 1, 2, 3, 4], [0, 1, 2, 2], [1, 0, 2, 3], (0, 1, 2, 3), [0, 1, 2, 4], [0, True, 2, 3],
    [False, 1, 2, 3], [0, 1, 2, 3, 3], [3, 2, 1, 0]])
NEW_NAMES = wrong(errors.InvalidName, [], [
    ["a", "b"], ["a", "b", "c", "d"], ["a", "b", "b"], ("a", "b", "c"), ["a", "b", "C"], ["a", "b", ""],
    ["a", "b", None], ["a", "b", "c01"]])
ORDER = wrong(errors.InvalidStep, [], [
    list(range(19)), list(range(21)), [0] + list(range(19)), tuple(range(20)), list(range(1, 21)),
    [False] + list(range(1, 20)), list(range(19)) + [18], list(range(20)) + [0], list(range(19)) + ["19"]])
ALL_OPENED = wrong(errors.InvalidOpen, [[]], LOOP_OPENED[1][-9:])
ALL_VALUES = wrong(errors.InvalidTable, [], [[0] * 5, [0] * 7, (0,) * 6, [0] * 5 + [True], [0] * 5 + ["nothing"]])
CLAIM = (["program", "bound", "number"], [PROGRAM, wrong(errors.InvalidBound, [], COME_TO[1][-3:]), NUMBER])

PLANS = [
    (plans.values_of, (LOOP, [0, 1], PLAN_HERE), OF_PLAN),
    (plans.road_of, (LOOP, [0, 1], HIGH, PLAN_HERE), beside(OF_OPTIONS, "plan", PLAN)),
    (plans.is_road, (LOOP, [0, 1], HIGH, PLAN_HERE, RING_HERE), beside(beside(OF_OPTIONS, "plan", PLAN), "value", ANY)),
    (plans.gains, (LOOP, [0, 1], LOW_PLAN), OF_PLAN),
    (plans.turned, (LOOP, [0, 1], LOW_PLAN, [(HIGH, (1, 0))]), beside(OF_PLAN, "turns", TURNS)),
    (plans.first_plan, (LOOP, [0, 1]), OF_OPEN),
    (plans.row_of_plans, (LOOP, [0, 1], LOW_PLAN), OF_PLAN),
    (plans.is_row_of_plans, (LOOP, [0, 1], [LOW_PLAN, PLAN_HERE]), OF_PHASE),
    (plans.rest_of, (LOOP, [0, 1]), OF_OPEN),
    (plans.carried, (LOOP, [0], [0, 1], LOW_PLAN), beside(beside(OF_OPEN, "more", MORE), "plan", PLAN)),
    (plans.widened, (FULL, 3), (["program", "number"], [PROGRAM, COUNT])),
]
LEAST_CALLS = [
    (least.least_table, (FULL,), OF_ONE),
    (least.is_least, (LOOP, LEAST), OF_PROGRAM),
    (least.range_at, (FULL, 1, "x"), (["program", "place", "name"], [PROGRAM, PLACE, NAME])),
    (least.reached_places, (FULL,), OF_ONE),
    (least.openings, (LOOP,), OF_ONE),
    (least.openings_by, (FULL, [1, 0, 7]), (["program", "picks"], [PROGRAM, PICKS])),
    (least.is_openings, (LOOP, OPENINGS), OF_PROGRAM),
    (least.greatest_told, (FULL,), OF_ONE),
    (least.end_limit, (FULL,), OF_ONE),
]
HULLS = [
    (hulls.hull_of, (FULL, [(0, [0, 1, 2]), (3, [0, 0, 0]), (0, [-4, 0, 7])]), (["program", "states"], [PROGRAM, STATES])),
    (hulls.hull, (FULL, 2), (["program", "most"], [PROGRAM, COUNT])),
    (hulls.whole_hull, (LOOP,), OF_ONE),
    (hulls.lost_bounds, (LOOP,), OF_ONE),
    (hulls.run_to_bound, (LOOP, HIGH), (CLAIM[0][:2], CLAIM[1][:2])),
    (hulls.is_round, (ROUND, (([0], [(0, None)]), [(1, None), (0, None), (1, None), (0, None)])), OF_PROGRAM),
    (hulls.any_round, (ROUND,), OF_ONE),
    (hulls.most_moves, (LOOP,), OF_ONE),
]
TURNED = [
    (turned.scaled, (FULL, 3), (["program", "factor"], [PROGRAM, FACTOR])),
    (turned.scaled_table, (FULL, TABLE_HERE, 3), beside(OF_TABLE, "factor", FACTOR)),
    (turned.moved, (FULL, -3), (["program", "number"], [PROGRAM, NUMBER])),
    (turned.moved_table, (FULL, TABLE_HERE, -3), beside(OF_TABLE, "number", NUMBER)),
    (turned.mirrored, (FULL,), OF_ONE),
    (turned.mirrored_table, (FULL, TABLE_HERE), OF_TABLE),
    (turned.with_places, (FULL, [0, 3, 1, 2]), (["program", "places"], [PROGRAM, PLACES])),
    (turned.with_places_table, (FULL, TABLE_HERE, [0, 3, 1, 2]), beside(OF_TABLE, "places", PLACES)),
    (turned.with_names, (FULL, ["b", "c", "a"]), (["program", "names"], [PROGRAM, NEW_NAMES])),
    (turned.with_names_table, (FULL, TABLE_HERE, ["b", "c", "a"]), beside(OF_TABLE, "names", NEW_NAMES)),
    (turned.with_steps, (FULL, list(range(19, -1, -1))), (["program", "order"], [PROGRAM, ORDER])),
]
PAPERS = [
    (papers.is_paper, (LOOP, [0, 1, 2], LOOP_VALUES, LOOP_PAPER), (
        ["program", "opened", "values", "value"], [PROGRAM, ALL_OPENED, ALL_VALUES, ANY])),
    (papers.paper_of, (LOOP, [0, 1]), OF_OPEN),
    (papers.is_proof, (LOOP, PROOF[:1]), OF_PROGRAM),
    (papers.is_proof_of, (LOOP, LEAST, copied(PROOF)), (["program", "table", "value"], [PROGRAM, LOOP_TABLE, ANY])),
    (papers.proof_of, (LOOP,), OF_ONE),
    (papers.is_shown, (LOOP, HIGH, 9), CLAIM),
    (papers.answer_to, (LOOP, HIGH, 9), CLAIM),
    (papers.is_answer, (LOOP, HIGH, 10, ("yes", LEAST)), beside(CLAIM, "value", ANY)),
]
MODULES = [(plans, PLANS), (least, LEAST_CALLS), (hulls, HULLS), (turned, TURNED), (papers, PAPERS)]
