"""[78] to [81] A live checker."""

import inspect
import time

from stillranges import errors
from stillranges.kinds import is_program
from stillranges.least import least_table, range_at
from stillranges.live import LiveChecker, is_edit
from stillranges.ranges import span_within, table_within
from stillranges.texts import text_of_program
from tests.helpers import CLIMB, FAR, FULL, JUNK, LOOP, Case, alike, any_deed, any_program, any_span, copied, dice, lists_in
from tests.test_least import any_great

WISH = (2, "i", (10, 10))
METHODS = {"do": ["edit"], "undo": [], "redo": [], "log": [], "copy": [], "program": [], "wishes": [], "table": [], "told": [],
           "alarms": [], "news": [], "risks": ["name"], "table_with": ["edit"], "alarms_with": ["edit"], "mending": []}
NO_EDITS = [
    ("put", 4, (0, 1, ("go",))), ("put", -1, (0, 1, ("go",))), ("put", True, (0, 1, ("go",))), ("put", None, (0, 1, ("go",))),
    ("put", 0, (0, 3, ("go",))), ("put", 0, (-1, 1, ("go",))), ("put", 0, [0, 1, ("go",)]), ("put", 0, (0, 1, ["go"])),
    ("put", 0, (0, 1, ("set", "x", 1))), ("put", 0, (0, 1)), ("put", 0, (0, 1, ("call", 0))), ("put", 0, None), ("put", 0),
    ("put", 0, (0, 1, ("go",)), 0), ("put", "0", (0, 1, ("go",))), ["put", 0, (0, 1, ("go",))], ("put", 0, (False, 1, ("go",))),
    ("take", 3), ("take", -1), ("take", False), ("take", None), ("take",), ("take", 0, 0), ["take", 0], ("take", "0"), ("Take", 0),
    ("turn", 3, (0, 1, ("go",))), ("turn", -1, (0, 1, ("go",))), ("turn", True, (0, 1, ("go",))), ("turn", 0), ("turn", 0, None),
    ("turn", 0, (0, 3, ("go",))), ("turn", 0, (0, 1, ("go", 1))), ("turn", 0, (0, 1, ("go",)), 1),
    ("start", "x", (0, 1)), ("start", "i", (1, 0)), ("start", "i", [0, 1]), ("start", "i", (0, True)), ("start", "i"),
    ("start", ["i"], (0, 1)), ("start", "i", None), ("start", 0, (0, 1)), ("start", "i", (0, 1), 0),
    ("wish", (3, "i", (0, 1))), ("wish", (-1, "i", (0, 1))), ("wish", (True, "i", (0, 1))), ("wish", (0, "x", (0, 1))),
    ("wish", (0, "i", (1, 0))), ("wish", (0, "i", None)), ("wish", [0, "i", (0, 1)]), ("wish", (0, "i")), ("wish", None), ("wish",),
    ("wish", (0, "i", (0, 1), 0)), ("wish", 0, "i", (0, 1)), ("wish", (0, ["i"], (0, 1))),
    ("drop", 0), ("drop", -1), ("drop", True), ("drop",), ("drop", None), ("drop", 0, 0),
    ("stay",), ("undo",), (), ("",), (None, 0), ([], 0), (("take",), 0), "take", ("do", ("take", 0)), ({}, 0), (0, 0),
]


def any_step(chance, program):
    return (chance.randrange(program[1]), chance.randrange(program[1]), any_deed(chance, program[0]))


def any_edit(chance, live):
    """An edit that can be done now."""
    program, wishes = live.program(), live.wishes()
    words = ["put", "put", "start", "wish"] + ["take", "turn"] * bool(program[3]) + ["drop"] * bool(wishes)
    word = chance.choice(words)
    if word == "put":
        return (word, chance.randint(0, len(program[3])), any_step(chance, program))
    if word == "take":
        return (word, chance.randrange(len(program[3])))
    if word == "turn":
        return (word, chance.randrange(len(program[3])), any_step(chance, program))
    if word == "start":
        return (word, chance.choice(program[0]), any_span(chance, -2, 2, 0.1))
    if word == "wish":
        return (word, (chance.randrange(program[1]), chance.choice(program[0]), any_span(chance, -4, 4, 0.3)))
    return (word, chance.randrange(len(wishes)))


def behind(program, wishes, edit):
    """The program and the wishes behind an edit, by the words."""
    names, many, start, steps = copied(program)
    wishes = list(wishes)
    if edit[0] == "put":
        steps = steps[:edit[1]] + [edit[2]] + steps[edit[1]:]
    elif edit[0] == "take":
        steps = steps[:edit[1]] + steps[edit[1] + 1:]
    elif edit[0] == "turn":
        steps = steps[:edit[1]] + [edit[2]] + steps[edit[1] + 1:]
    elif edit[0] == "start":
        start = [edit[2] if name == edit[1] else span for name, span in zip(names, start)]
    elif edit[0] == "wish":
        wishes = wishes + [edit[1]]
    else:
        wishes = wishes[:edit[1]] + wishes[edit[1] + 1:]
    return (names, many, start, steps), wishes


def alarms_of(program, wishes):
    spans = [(range_at(program, place, name), span) for place, name, span in wishes]
    return [number for number, (there, span) in enumerate(spans) if there is not None and not span_within(there, span)]


def news_of(program, other):
    rows = zip(least_table(program), least_table(other))
    return [(place, before, after) for place, (before, after) in enumerate(rows) if before != after]


def some_checkers(seed, many, edits=6):
    chance = dice(seed)
    for _ in range(many):
        live = LiveChecker(any_program(chance, names=2, places=3, steps=chance.randint(0, 5), endless=chance.choice([0, 0.1])))
        for _ in range(chance.randint(0, edits)):
            live.do(any_edit(chance, live))
        yield live, chance


class Making(Case):
    def test_methods_are_its_own(self):
        for name, arguments in METHODS.items():
            self.assertIn(name, vars(LiveChecker))
            self.assertEqual(list(inspect.signature(getattr(LiveChecker, name)).parameters), ["self"] + arguments)
        self.assertIn("__eq__", vars(LiveChecker))
        self.assertEqual(LiveChecker.__module__, "stillranges.live")
        self.assertEqual(is_edit.__module__, "stillranges.live")
        self.assertEqual(list(inspect.signature(LiveChecker).parameters), ["program"])

    def test_at_the_beginning(self):
        live = LiveChecker(program=LOOP)
        self.alike([live.program(), live.wishes(), live.table(), live.told()], [LOOP, [], least_table(LOOP), text_of_program(LOOP)])
        self.alike([live.log(), live.alarms(), live.news(), live.mending(), live.risks("i")], [[], [], [], [], []])
        with self.assertRaises(errors.NothingToUndo):
            live.undo()
        with self.assertRaises(errors.NothingToRedo):
            live.redo()

    def test_what_is_no_program(self):
        for value in JUNK + [LOOP[:3], list(LOOP), LiveChecker(LOOP)]:
            if not is_program(value):
                self.refused(errors.InvalidProgram, value, LiveChecker, value)

    def test_the_program_handed_in_is_its_own(self):
        program = copied(CLIMB)
        live = LiveChecker(program)
        program[0].append("y")
        program[2][0] = (5, 5)
        program[3].clear()
        self.alike([live.program(), live.table()], [CLIMB, least_table(CLIMB)])

    def test_what_is_handed_out_is_new(self):
        live = LiveChecker(CLIMB)
        live.do(("wish", (0, "x", (0, 1))))
        live.do(("put", 0, (2, 2, ("set", "x", 9))))
        calls = [live.program, live.wishes, live.table, live.log, live.alarms, live.news, live.mending, lambda: live.risks("x"),
                 lambda: live.table_with(("take", 0)), lambda: live.alarms_with(("take", 0)),
                 lambda: live.table_with(("drop", 0)), lambda: live.table_with(("wish", (0, "x", (0, 0))))]
        for call in calls:
            one, told = call(), copied(call())
            lists = lists_in(one) + lists_in(call())
            self.assertEqual(len({id(found) for found in lists}), len(lists))
            for found in lists:
                found.append("changed")
            for other in calls:
                self.assertNotIn("changed", str(other()))
            self.alike(call(), told)


class Edits(Case):
    def test_each_kind(self):
        live = LiveChecker(LOOP)
        for edit in (("put", 0, (0, 1, ("go",))), ("put", 3, (2, 2, ("set", "i", -FAR))), ("take", 0), ("take", 2),
                     ("turn", 2, (1, 1, ("input", "i", (None, 3)))), ("start", "i", (None, None)), ("start", "i", (0, 0)),
                     ("wish", WISH), ("wish", (0, "i", (None, None)))):
            self.assertIs(is_edit(live, edit), True, edit)
            program, wishes = behind(LOOP, [], edit)
            self.alike([live.table_with(edit), live.alarms_with(edit)], [least_table(program), alarms_of(program, wishes)])
            self.alike(live, LiveChecker(LOOP))
            self.assertIs(live.do(edit), None)
            self.alike([live.program(), live.wishes(), live.log(), live.news()], [program, wishes, [edit], news_of(LOOP, program)])
            self.assertIs(live.undo(), None)

    def test_those_that_cannot_be_done(self):
        for live in (LiveChecker(LOOP), self.with_wish_taken_back()):
            for edit in NO_EDITS + JUNK + [live, ("wish", live), (live, 0)]:
                self.assertIs(is_edit(live, edit), False, edit)
                for call in (live.do, live.table_with, live.alarms_with):
                    self.refused(errors.InvalidEdit, edit, call, edit)
            self.alike([live.program(), live.wishes(), live.log()], [LOOP, [], []])

    def with_wish_taken_back(self):
        live = LiveChecker(LOOP)
        live.do(("wish", WISH))
        live.undo()
        return live

    def test_numbers_just_beyond(self):
        live = LiveChecker(LOOP)
        live.do(("take", 1))
        live.do(("wish", WISH))
        for edit, expected in ((("put", 2, (0, 0, ("go",))), True), (("put", 3, (0, 0, ("go",))), False), (("take", 1), True),
                               (("take", 2), False), (("turn", 1, (0, 0, ("go",))), True), (("turn", 2, (0, 0, ("go",))), False),
                               (("drop", 0), True), (("drop", 1), False)):
            self.assertIs(is_edit(live, edit), expected)

    def test_limits_are_those_of_the_caller(self):
        """30 steps and 12 wishes are what callers stay within; what goes beyond is an edit all the same."""
        live = LiveChecker(LOOP)
        for number in range(31):
            edit = ("put", len(live.program()[3]), (2, 2, ("set", "i", number)))
            self.assertIs(is_edit(live, edit), True)
            live.do(edit)
        for number in range(14):
            self.assertIs(is_edit(live, ("wish", (2, "i", (0, number + 20)))), True)
            live.do(("wish", (2, "i", (0, number + 20))))
        self.alike([len(live.program()[3]), len(live.wishes()), live.alarms()], [34, 14, list(range(10))])

    def test_what_is_no_live_checker(self):
        for value in [value for value in JUNK if not isinstance(value, LiveChecker)] + [LOOP, LiveChecker]:
            self.refused(errors.InvalidEdit, value, is_edit, value, ("take", 0))
            self.refused(errors.InvalidEdit, value, is_edit, value, None)
        self.alike([is_edit(live=LiveChecker(LOOP), value=("take", 0)), is_edit(value=None, live=LiveChecker(LOOP))], [True, False])


class History(Case):
    def test_done_taken_back_and_done_again(self):
        """Against a list of what there was at each time."""
        chance = dice(291)
        for _ in range(60):
            program = any_program(chance, names=2, places=3, steps=4)
            live = LiveChecker(program)
            stands, now, news = [(None, program, [])], 0, []
            for _ in range(14):
                turn = chance.choice(["do", "do", "undo", "redo"])
                before = stands[now][1]
                if turn == "do":
                    edit = any_edit(chance, live)
                    stands = stands[:now + 1] + [(edit, *behind(*stands[now][1:], edit))]
                    live.do(edit)
                    now += 1
                elif turn == "undo" and now == 0:
                    with self.assertRaises(errors.NothingToUndo) as caught:
                        live.undo()
                    self.assertEqual(vars(caught.exception), {})
                    continue
                elif turn == "redo" and now + 1 == len(stands):
                    with self.assertRaises(errors.NothingToRedo) as caught:
                        live.redo()
                    self.assertEqual(vars(caught.exception), {})
                    continue
                elif turn == "undo":
                    self.assertIs(live.undo(), None)
                    now -= 1
                else:
                    self.assertIs(live.redo(), None)
                    now += 1
                news = news_of(before, stands[now][1])
                _, told, wishes = stands[now]
                self.alike([live.program(), live.wishes(), live.table()], [told, wishes, least_table(told)])
                self.alike([live.log(), live.told()], [[stand[0] for stand in stands[1:now + 1]], text_of_program(told)])
                self.alike([live.alarms(), live.news()], [alarms_of(told, wishes), news])

    def test_what_was_undone_is_forgotten(self):
        live = LiveChecker(LOOP)
        live.do(("take", 0))
        live.do(("take", 0))
        live.undo()
        live.undo()
        live.redo()
        live.do(("start", "i", (5, 5)))
        with self.assertRaises(errors.NothingToRedo):
            live.redo()
        self.alike(live.log(), [("take", 0), ("start", "i", (5, 5))])
        live.undo()
        live.undo()
        self.alike([live.program(), live.log()], [LOOP, []])

    def test_what_cannot_be_done_forgets_nothing(self):
        live = LiveChecker(LOOP)
        live.do(("take", 0))
        live.undo()
        self.refused(errors.InvalidEdit, None, live.do, None)
        live.table_with(("take", 1))
        live.alarms_with(("take", 1))
        live.redo()
        self.alike(live.log(), [("take", 0)])

    def test_copies(self):
        for live, chance in some_checkers(292, 60):
            if live.log() and chance.random() < 0.5:
                live.undo()
            other = live.copy()
            self.assertIs(type(other), LiveChecker)
            self.assertTrue(other == live and not other != live)
            self.alike([other.news(), other.alarms(), other.table(), other.mending()],
                       [live.news(), live.alarms(), live.table(), live.mending()])
            told = [live.program(), live.wishes(), live.log(), live.news()]
            for turn in ("redo", "undo", "undo"):
                one, two = copied(0), copied(0)
                try:
                    getattr(live, turn)()
                except errors.BoundError as why:
                    one = type(why)
                try:
                    getattr(other, turn)()
                except errors.BoundError as why:
                    two = type(why)
                self.assertEqual(one, two)
                self.alike([other.program(), other.wishes(), other.log(), other.news()],
                           [live.program(), live.wishes(), live.log(), live.news()])
            one = live.copy()
            told = [live.program(), live.wishes(), live.log(), live.news()]
            one.do(any_edit(chance, one))
            self.alike([live.program(), live.wishes(), live.log(), live.news()], told)
            self.assertFalse(one == live)
            told = [one.program(), one.wishes(), one.log(), one.news()]
            live.do(("start", "a", (7, 7)))
            self.alike([one.program(), one.wishes(), one.log(), one.news()], told)

    def test_equal(self):
        one, other = LiveChecker(LOOP), LiveChecker(copied(LOOP))
        self.assertTrue(one == other)
        other.do(("take", 0))
        self.assertTrue(one != other)
        one.do(("take", 0))
        self.assertTrue(one == other)
        # What can be done again does not count; the log does.
        other.do(("take", 0))
        other.undo()
        self.assertTrue(one == other)
        other.do(("start", "i", (0, 0)))
        self.assertTrue(one != other and one.program() == other.program())
        one.do(("wish", WISH))
        one.do(("drop", 0))
        self.assertTrue(one != other)
        self.assertFalse(LiveChecker(LOOP) == LiveChecker(CLIMB))
        for value in JUNK + [LOOP, LiveChecker, [one]]:
            self.assertFalse(one == value)
            self.assertTrue(one != value)


class Telling(Case):
    def test_alarms_news_and_risks(self):
        live = LiveChecker(LOOP)
        for wish in (WISH, (0, "i", (0, 9)), (1, "i", (None, 9)), (2, "i", (None, None)), (1, "i", (1, None)), (0, "i", (0, 9))):
            live.do(("wish", wish))
            self.alike(live.news(), [])
        self.alike(live.alarms(), [1, 4, 5])
        live.do(("take", 0))
        self.alike([live.alarms(), live.news()], [[], [(0, [(0, 10)], [(0, 0)]), (1, [(0, 9)], None), (2, [(10, 10)], None)]])
        live.undo()
        self.alike([live.alarms(), live.news()], [[1, 4, 5], [(0, [(0, 0)], [(0, 10)]), (1, None, [(0, 9)]), (2, None, [(10, 10)])]])
        live.redo()
        self.alike(live.news(), [(0, [(0, 10)], [(0, 0)]), (1, [(0, 9)], None), (2, [(10, 10)], None)])
        live.do(("start", "i", (None, 3)))
        self.alike([live.alarms(), live.news(), live.risks("i")], [[1, 5], [(0, [(0, 0)], [(None, 3)])], [0]])
        live.do(("drop", 1))
        self.alike([live.alarms(), live.news(), live.wishes()], [[4], [], [WISH, (1, "i", (None, 9)), (2, "i", (None, None)),
                                                                         (1, "i", (1, None)), (0, "i", (0, 9))]])
        live.do(("put", 0, (0, 2, ("input", "i", (None, None)))))
        self.alike([live.alarms(), live.risks("i")], [[0, 4], [0, 2]])

    def test_risks(self):
        program = (["x", "y"], 3, [(None, 0), (0, 0)], [(0, 1, ("set", "x", 3)), (1, 2, ("add", "y", "y", 1)), (2, 1, ("go",))])
        live = LiveChecker(program)
        self.alike([live.risks("x"), live.risks("y")], [[0], [1, 2]])
        for name in ("z", "", None, 0, ["x"], ("x",), True):
            self.refused(errors.InvalidName, name, live.risks, name)
        for live, _ in some_checkers(293, 100):
            for name in ("a", "b"):
                rows = enumerate(least_table(live.program()))
                at = live.program()[0].index(name)
                self.alike(live.risks(name), [place for place, row in rows if row is not None and None in row[at]])

    def test_a_step_that_is_put_never_narrows_and_one_taken_out_never_widens(self):
        for live, chance in some_checkers(294, 100):
            program = live.program()
            put = ("put", chance.randint(0, len(program[3])), any_step(chance, program))
            self.assertIs(table_within(program, live.table(), live.table_with(put)), True)
            for step in range(len(program[3])):
                self.assertIs(table_within(program, live.table_with(("take", step)), live.table()), True)

    def test_what_an_edit_would_do(self):
        alarmed = 0
        for live, chance in some_checkers(295, 150, 9):
            told = [live.program(), live.wishes(), live.log(), live.news(), live.table()]
            for _ in range(3):
                edit = any_edit(chance, live)
                program, wishes = behind(live.program(), live.wishes(), edit)
                self.alike([live.table_with(edit), live.alarms_with(edit)], [least_table(program), alarms_of(program, wishes)])
                alarmed += live.alarms_with(edit) != live.alarms()
            self.alike([live.program(), live.wishes(), live.log(), live.news(), live.table()], told)
        self.assertGreater(alarmed, 40)

    def test_mending(self):
        some, none = 0, 0
        for live, _ in some_checkers(296, 250, 9):
            program, wishes = live.program(), live.wishes()
            expected = [step for step in range(len(program[3])) if alarms_of(program, wishes) and not alarms_of(
                *behind(program, wishes, ("take", step)))]
            self.alike(live.mending(), expected)
            some += bool(expected)
            none += bool(live.alarms() and not expected)
        self.assertTrue(some > 8 and none > 10, (some, none))

    def test_mending_of_the_loop(self):
        live = LiveChecker(LOOP)
        live.do(("wish", WISH))
        self.alike(live.mending(), [])
        live.do(("turn", 1, (1, 0, ("add", "i", "i", 2))))
        self.alike([live.alarms(), live.mending()], [[0], [0, 1, 2]])
        live.do(("put", 3, (0, 2, ("go",))))
        self.alike([live.alarms(), live.mending()], [[0], []])
        live.do(("wish", (0, "i", (1, 1))))
        self.alike([live.alarms(), live.mending()], [[0, 1], []])

    def test_within_seconds_up_to_the_limits(self):
        began = time.perf_counter()
        chance = dice(297)
        for top in (3, FAR):
            live = LiveChecker(any_great(chance, top))
            for place in range(12):
                live.do(("wish", (place, "a", (None, top))))
            live.mending()
            for _ in range(30):
                live.do(("turn", chance.randrange(30), any_step(chance, live.program())))
                live.alarms()
                live.news()
            other = live.copy()
            for _ in range(42):
                other.undo()
            self.assertFalse(other == live)
            for _ in range(42):
                other.redo()
            self.assertTrue(other == live and alike(other.news(), live.news()))
        self.assertLess(time.perf_counter() - began, 30)
        self.assertIs(is_edit(LiveChecker(FULL), ("start", "z", (None, FAR))), True)
