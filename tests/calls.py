"""One good call of each function of the interface, and what each of its arguments is refused with.

Each row: the function, the names of its arguments, good ones, and for each of them a tuple of the error and of some
wrong values; the error is None where any value may be handed in.
"""

from stillranges import errors, kept, kinds, phases, ranges, rings, running, texts
from tests.helpers import FULL, JUNK, LOOP, alike


def wrong(error, right, more):
    """The values of all sorts but the right ones among them, and some more wrong ones."""
    return (error, [value for value in JUNK if not any(alike(value, good) for good in right)] + more)


NUMBERS = [value for value in JUNK if type(value) is int]
SPANS = [(None, None), (0, None)]
ANY = (None, JUNK)
PROGRAM = wrong(errors.InvalidProgram, [(["x"], 1, [(0, 0)], [])], [
    FULL[:3], list(LOOP), (["i"], 3, [(0, 0)], ()), (("i",), 3, [(0, 0)], []), (["i"], 0, [(0, 0)], []),
    (["i"], True, [(0, 0)], []), (["i"], 3, [(1, 0)], []), (["i"], 3, [], []), (["i"], 3, [(0, 0), (0, 0)], []),
    (["b", "a"], 1, [(0, 0), (0, 0)], []), (["a", "a"], 1, [(0, 0), (0, 0)], []), ([], 1, [], []),
    (["i"], 3, [(0, 0)], [(0, 3, ("go",))]), (["i"], 3, [(0, 0)], [(-1, 0, ("go",))]),
    (["i"], 3, [(0, 0)], [(0, 1, ("set", "j", 1))]), (["i"], 3, [(0, 0)], [[0, 1, ("go",)]]),
    (["i"], 3, [(0, 0)], [(False, 1, ("go",))]), (["i"], 3, [(0, 0)], [(0, 1, ["go"])]),
    (["i"], 3, [(0, 0)], [(0, 1)]), (["i"], 3, [[0, 0]], []), (["i"], 3, ((0, 0),), []), LOOP + ([],)])
SPAN = wrong(errors.InvalidRange, SPANS, [(2, 1), (True, 2), (0, False), [0, 1], (0, 1, 2), ("", 3)])
NUMBER = wrong(errors.InvalidNumber, NUMBERS, [[1], "1"])
COUNT = wrong(errors.InvalidNumber, [value for value in NUMBERS if value >= 0], [])
NAMES = wrong(errors.InvalidName, [["x"], ["go"]], [["y", "x"], ["x", "x"], ["x", 1], ["x01"], ("x", "y")])
NAME = wrong(errors.InvalidName, ["x"], ["w", "xx", " x"])
DEED = wrong(errors.InvalidDeed, [("go",)], [
    ("go", None), ("set", "w", 1), ("set", "x", True), ("add", "x", "y"), ("input", "x", (2, 1)), ("stay",),
    ("below", "x", "x", 0), ("equal", "y", "y", 0), ("least", "x", "y", 1), ("upto", "x", None), [("go",)]])
STEP = wrong(errors.InvalidStep, [0, 1, 2], [20, "0"])
PLACE = wrong(errors.InvalidPlace, [0, 1, 2], [4, "0"])
BOUND = wrong(errors.InvalidBound, [(0, "x", "low")], [
    (4, "x", "low"), (2, "x", "low"), (0, "w", "low"), (0, "x", "Low"), [0, "x", "low"], (False, "x", "low")])
STATE = wrong(errors.InvalidState, [], [
    (4, [0, 0, 0]), (0, [0, 0]), (0, (0, 0, 0)), [0, [0, 0, 0]], (0, [0, 0, True]), (0, [0, None, 0]),
    (0, [0, 0, 0], 0), (False, [0, 0, 0])])
RUN = wrong(errors.InvalidRun, [], [
    ([5, 0, 1], []), ([0, 0], []), ((0, 0, 1), []), ([0, 0, 1], ()), ([0, 0, 1], [(1, None)]), ([0, 0, 1], [[0, None]]),
    ([0, 0, 1], [(0, 1)]), ([False, 0, 1], []), ([0, 0, 1], [(6, None)]), ([0, 0, 1], [(6, 2)]), [[0, 0, 1], []],
    ([0, 0, 1], [(0, None), (0, None)]), ([0, 0, 1], [(0, None, None)]), ([0, 0, 1], [(False, None)])])
MOVE = wrong(errors.InvalidStep, [(0, None)], [
    (0, None, None), [0, None], (1, None), (6, None), (6, 2), (6, True), (0, 0), (20, None), (-1, None), (False, None)])
ROW = wrong(errors.InvalidRow, [], [
    [(0, 0)] * 2, [(0, 0)] * 4, ((0, 0),) * 3, [(0, 0), (0, 0), (1, 0)], [None] * 3, [(0, 0), (0, 0), (True, 1)]])
TABLE = wrong(errors.InvalidTable, [], [
    [None] * 3, [None] * 5, (None,) * 4, [None, None, None, [(0, 0)]], [None, None, None, ((0, 0),) * 3],
    [None, None, None, [(0, 0), (1, 0), (0, 0)]], [False] * 4])
OPENED = wrong(errors.InvalidOpen, [[]], [[0, 0], [3, 0], (0,), [0, 20], [False], [1], [0, 2], [-1, 0], [0, None]])
SPAN_TEXT = wrong(errors.InvalidText, [".."], ["...", "0 ..", "0.. ", "2..1"])
DEED_TEXT = wrong(errors.InvalidText, ["go"], ["x := 1 ", "x := w + 1"])
TEXT = wrong(errors.InvalidText, [], ["names: x\n", "0: 0..0\n"])

LOOP_STATE = wrong(errors.InvalidState, [(0, [1])], [(3, [0]), (0, [0, 0]), (0, [None]), (0, (0,))])
LOOP_TABLE = wrong(errors.InvalidTable, [], [[None] * 2, [None] * 4, (None,) * 3, [[(0, 0)] * 2, None, None]])
LOOP_OPENED = wrong(errors.InvalidOpen, [[]], [[0, 0], [1, 0], (0,), [0, 3], [False], [1], [1, 2], [-1, 0], [0, None]])
COME_TO = wrong(errors.InvalidBound, [], [(2, "i", "low"), (3, "i", "low"), (0, "x", "low"), [0, "i", "low"]])
OPTION = wrong(errors.InvalidPlan, [], [(0, 0), (None, 1), (None, False), [None, 0], (1, 1), (True, 0), (1, 0, 0), (2, 0)])
VALUES = wrong(errors.InvalidTable, [], [[0] * 3, [0] * 5, (0,) * 4, [0, 0, 0, True], [0, 0, 0, "nothing"]])
PLAN = wrong(errors.InvalidPlan, [], [
    [(None, 0)] * 4, [(1, 0), (1, 0), (0, 0)], [(1, 0), (1, 0), (0, 0), (0, 0), (0, 0)],
    ((1, 0), (1, 0), (0, 0), (0, 0)), [(1, 0), (1, 0), (0, 0), [0, 0]], [(1, 0), (1, 0), (0, 0), (0, 1)],
    [(1, 0), (1, 0), (0, 0), (False, 0)], [(1, 0), (1, 0), (0, 0), (0, False)], [(1, 0), (1, 0), (0, 0), (None, 0)]])
RING = wrong(errors.InvalidPaper, [], [
    [(0, "i", "high")], [(0, "i", "high"), (1, "i", "low")], ((0, "i", "high"), (1, "i", "high")),
    [(0, "i", "high"), (1, "i", "high"), (0, "i", "high"), (1, "i", "high")], [(False, "i", "high"), (1, "i", "high")],
    [[0, "i", "high"], (1, "i", "high")], [(0, "i", "high"), (2, "i", "high")]])

NAMES_HERE = ["x", "y", "z"]
ROW_HERE = [(0, 1), (-2, 4), (None, None)]
OTHER_ROW = [(-3, 0), (None, 0), (3, None)]
TABLE_HERE = [[(0, 4), (-2, 4), (1, 1)], [(-4, None), (-2, 0), (None, 3)], None, [(0, 0), (0, 0), (0, 0)]]
OTHER_TABLE = [[(2, 9), (None, 4), (0, 1)], None, None, [(5, 6), (0, 0), (0, 0)]]
STATE_HERE = (0, [0, 0, 1])
RUN_HERE = ([0, -2, 1], [(0, None), (1, None)])
HIGH = (0, "i", "high")
PLAN_HERE = [(1, 0), (None, 0), (0, 0), (0, 0)]
RING_HERE = [(0, "i", "high"), (1, "i", "high")]
OF_PROGRAM = (["program", "value"], [PROGRAM, ANY])
OF_STEP = (["program", "step"], [PROGRAM, STEP])
OF_PLACE = (["program", "place"], [PROGRAM, PLACE])
OF_TABLE = (["program", "table"], [PROGRAM, TABLE])
OF_SPANS = (["span", "other"], [SPAN, SPAN])
OF_NUMBER = (["span", "number"], [SPAN, NUMBER])
OF_ROWS = (["program", "row", "other"], [PROGRAM, ROW, ROW])
OF_TABLES = (["program", "table", "other"], [PROGRAM, TABLE, TABLE])
OF_DEED = (["program", "deed", "row"], [PROGRAM, DEED, ROW])
OF_CAUSE = (["program", "deed", "row", "name", "number"], [PROGRAM, DEED, ROW, NAME, NUMBER])
OF_OPEN = (["program", "opened"], [PROGRAM, LOOP_OPENED])
OF_OPTIONS = (["program", "opened", "bound"], [PROGRAM, LOOP_OPENED, COME_TO])
OF_OPTION = (["program", "opened", "bound", "option"], [PROGRAM, LOOP_OPENED, COME_TO, OPTION])
OF_PHASE = (["program", "opened", "value"], [PROGRAM, LOOP_OPENED, ANY])
OF_PLAN = (["program", "opened", "plan"], [PROGRAM, LOOP_OPENED, PLAN])


def beside(told, name, errors_told):
    """What is told of some arguments, with one more behind them."""
    return (told[0] + [name], told[1] + [errors_told])


KINDS = [
    (kinds.is_end, (None,), (["value"], [ANY])),
    (kinds.is_range, ((0, None),), (["value"], [ANY])),
    (kinds.is_name, ("x12",), (["value"], [ANY])),
    (kinds.are_names, (["a", "b"],), (["value"], [ANY])),
    (kinds.is_program, (FULL,), (["value"], [ANY])),
    (kinds.is_deed, (NAMES_HERE, ("go",)), (["names", "value"], [NAMES, ANY])),
    (kinds.is_place, (FULL, 3), OF_PROGRAM),
    (kinds.is_state, (FULL, STATE_HERE), OF_PROGRAM),
    (kinds.is_row, (FULL, ROW_HERE), OF_PROGRAM),
    (kinds.is_table, (FULL, TABLE_HERE), OF_PROGRAM),
    (kinds.is_bound, (FULL, (3, "z", "low")), OF_PROGRAM),
    (kinds.is_open, (FULL, [0, 3]), OF_PROGRAM),
    (kinds.written_by, (FULL, 2), OF_STEP),
    (kinds.read_by, (FULL, 2), OF_STEP),
    (kinds.is_test, (FULL, 14), OF_STEP),
    (kinds.steps_into, (FULL, 1), OF_PLACE),
    (kinds.steps_out, (FULL, 1), OF_PLACE),
    (kinds.bounds_of, (FULL,), (["program"], [PROGRAM])),
    (kinds.end_at, (FULL, TABLE_HERE, (1, "x", "high")), beside(OF_TABLE, "bound", BOUND)),
]
TEXTS = [
    (texts.text_of_range, ((0, 3),), (["span"], [SPAN])),
    (texts.text_of_deed, (NAMES_HERE, ("add", "x", "y", -2)), (["names", "deed"], [NAMES, DEED])),
    (texts.text_of_program, (FULL,), (["program"], [PROGRAM])),
    (texts.text_of_table, (FULL, TABLE_HERE), OF_TABLE),
    (texts.range_of_text, ("0..3",), (["text"], [SPAN_TEXT])),
    (texts.deed_of_text, (NAMES_HERE, "x := y - 2"), (["names", "text"], [NAMES, DEED_TEXT])),
    (texts.program_of_text, (texts.text_of_program(FULL),), (["text"], [TEXT])),
    (texts.table_of_text, (FULL, texts.text_of_table(FULL, TABLE_HERE)), (["program", "text"], [PROGRAM, TEXT])),
]
RUNNING = [
    (running.can_go, (FULL, STATE_HERE, (0, None)), (["program", "state", "value"], [PROGRAM, STATE, ANY])),
    (running.state_behind, (FULL, STATE_HERE, (0, None)), (["program", "state", "move"], [PROGRAM, STATE, MOVE])),
    (running.steps_from, (FULL, STATE_HERE), (["program", "state"], [PROGRAM, STATE])),
    (running.is_run, (FULL, RUN_HERE), OF_PROGRAM),
    (running.states_of, (FULL, RUN_HERE), (["program", "run"], [PROGRAM, RUN])),
    (running.reached, (FULL, 2), (["program", "most"], [PROGRAM, COUNT])),
    (running.all_reached, (LOOP,), (["program"], [PROGRAM])),
    (running.first_run_to, (LOOP, (0, [7])), (["program", "state"], [PROGRAM, LOOP_STATE])),
    (running.stuck_states, (LOOP,), (["program"], [PROGRAM])),
    (running.holds_state, (FULL, TABLE_HERE, STATE_HERE), beside(OF_TABLE, "state", STATE)),
    (running.first_left, (FULL, TABLE_HERE, RUN_HERE), beside(OF_TABLE, "run", RUN)),
    (running.shortest_leaving, (LOOP, [[(0, 5)], [(0, 9)], None]), (["program", "table"], [PROGRAM, LOOP_TABLE])),
]
RANGES = [
    (ranges.span_holds, ((0, 3), 2), OF_NUMBER),
    (ranges.how_many_held, ((0, 3),), (["span"], [SPAN])),
    (ranges.span_within, ((0, 3), (0, None)), OF_SPANS),
    (ranges.span_joined, ((0, 3), (7, 9)), OF_SPANS),
    (ranges.span_met, ((0, 3), (2, 9)), OF_SPANS),
    (ranges.span_plus, ((0, None), 2), OF_NUMBER),
    (ranges.span_turned, ((0, None), 2), OF_NUMBER),
    (ranges.span_least, ((0, 3), (2, 9)), OF_SPANS),
    (ranges.span_greatest, ((0, 3), (2, 9)), OF_SPANS),
    (ranges.row_within, (FULL, ROW_HERE, OTHER_ROW), OF_ROWS),
    (ranges.row_joined, (FULL, ROW_HERE, OTHER_ROW), OF_ROWS),
    (ranges.row_met, (FULL, ROW_HERE, OTHER_ROW), OF_ROWS),
    (ranges.table_within, (FULL, TABLE_HERE, OTHER_TABLE), OF_TABLES),
    (ranges.table_joined, (FULL, TABLE_HERE, OTHER_TABLE), OF_TABLES),
    (ranges.table_met, (FULL, TABLE_HERE, OTHER_TABLE), OF_TABLES),
]
ADDED = ("add", "x", "y", 2)
KEPT = [
    (kept.can_hold, (FULL, ("below", "x", "y", -1), ROW_HERE), OF_DEED),
    (kept.comes_of, (FULL, ("below", "x", "y", -1), ROW_HERE), OF_DEED),
    (kept.cause_of, (FULL, ADDED, ROW_HERE, "x", 3), OF_CAUSE),
    (kept.is_cause, (FULL, ADDED, ROW_HERE, "x", 3, [0, 1, 9]), beside(OF_CAUSE, "value", ANY)),
    (kept.comes_by, (FULL, 0, TABLE_HERE), beside(OF_STEP, "table", TABLE)),
    (kept.holding_at, (FULL, TABLE_HERE), OF_TABLE),
    (kept.led_by, (FULL, TABLE_HERE), OF_TABLE),
    (kept.holds_start, (FULL, TABLE_HERE), OF_TABLE),
    (kept.not_kept, (FULL, TABLE_HERE), OF_TABLE),
    (kept.is_kept, (FULL, TABLE_HERE), OF_TABLE),
]
PHASES = [
    (phases.phase_bounds, (FULL, [0, 3]), (["program", "opened"], [PROGRAM, OPENED])),
    (phases.options_of, (LOOP, [0, 1], HIGH), OF_OPTIONS),
    (phases.sides_of, (LOOP, [0, 1], HIGH, (1, 0)), OF_OPTION),
    (phases.option_worth, (LOOP, [0, 1], HIGH, (1, 0), [1, 0, 4, None]), beside(OF_OPTION, "values", VALUES)),
    (phases.are_values, (LOOP, [0, 1], [1, 0, 4, None]), OF_PHASE),
    (phases.are_kept_values, (LOOP, [0, 1], [10, 0, 9, 0]), OF_PHASE),
    (phases.is_plan, (LOOP, [0, 1], PLAN_HERE), OF_PHASE),
    (phases.values_of_table, (LOOP, [0, 1], [[(0, 10)], [(0, None)], None]), beside(OF_OPEN, "table", (
        errors.InvalidTable, LOOP_TABLE[1] + [[None] * 3, [[(0, 1)], None, [(0, 1)]]]))),
    (phases.table_of_values, (LOOP, [0, 1], [10, 0, None, 0]), beside(OF_OPEN, "values", VALUES)),
]
RINGS = [
    (rings.is_ring, (LOOP, [0, 1], PLAN_HERE, RING_HERE), beside(OF_PLAN, "value", ANY)),
    (rings.ring_sum, (LOOP, [0, 1], PLAN_HERE, RING_HERE), beside(OF_PLAN, "ring", RING)),
    (rings.is_sound, (LOOP, [0, 1], PLAN_HERE), OF_PLAN),
    (rings.loose_ring, (LOOP, [0, 1], [(1, 0), (1, 0), (0, 0), (0, 0)]), OF_PLAN),
]
MODULES = [(kinds, KINDS), (texts, TEXTS), (running, RUNNING), (ranges, RANGES), (kept, KEPT), (phases, PHASES),
           (rings, RINGS)]
