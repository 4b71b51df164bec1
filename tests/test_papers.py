"""[29] to [31] Papers, proofs and answers."""

import time

from stillranges import errors
from stillranges.kept import is_kept
from stillranges.kinds import bounds_of, end_at
from stillranges.least import least_table, openings, openings_by
from stillranges.papers import (
    answer_to, is_answer, is_paper, is_proof, is_proof_of, is_shown, paper_of, proof_of)
from stillranges.phases import are_kept_values, values_of_table
from stillranges.plans import rest_of
from stillranges.ranges import table_within
from tests.helpers import FAR, LOOP, Case, any_program, copied, dice
from tests.later_calls import LEAST, LOOP_PAPER, LOOP_VALUES, PROOF
from tests.test_least import any_great
from tests.test_plans import some_phases

ALL = [0, 1, 2]
UP = (["x"], 2, [(0, 0)], [(0, 1, ("add", "x", "x", 1)), (1, 0, ("go",)), (1, 0, ("input", "x", (None, 3)))])
HIGH = (0, "i", "high")
ITSELF = (["x"], 2, [(0, 0)], [(0, 1, ("from", "x", 5)), (1, 0, ("set", "x", 9))])


def changed(paper, at, entry):
    return paper[:at] + [entry] + paper[at + 1:]


def some_programs(seed, many):
    chance = dice(seed)
    return [any_program(chance, names=chance.randint(1, 2), places=3, steps=chance.randint(0, 7),
                        endless=chance.choice([0, 0.2])) for _ in range(many)]


class Papers(Case):
    def test_told_ones_are_taken(self):
        for program, opened, _ in some_phases(81, 400):
            rest = rest_of(program, opened)
            paper = paper_of(program, opened)
            self.assertEqual(len(paper), len(rest))
            self.assertIs(is_paper(program, opened, rest, paper), True)

    def test_values_with_a_paper_are_nowhere_wider_than_kept_ones(self):
        """Papers of all sorts of values: by chance, few heights and ranks, where there are few bounds."""
        chance = dice(82)
        taken = 0
        program = (["x"], 1, [(0, 0)], [(0, 0, ("upto", "x", 2)), (0, 0, ("add", "x", "x", 1)), (0, 0, ("set", "x", 1))])
        for steps in ([], [0], [1], [2], [0, 2], [1, 2], [0, 1, 2]):
            rest = rest_of(program, steps)
            options = [(None, 0)] + [(step, 0) for step in steps]
            for _ in range(3000):
                values = [chance.choice([None, 0, 1, 2]), chance.choice([None, -1, 0, 0])]
                paper = [(chance.choice(options), chance.randint(-1, 2) if value is None else value, chance.randint(0, 2))
                         for value in values]
                if is_paper(program, steps, values, paper):
                    taken += 1
                    for value, least in zip(values, rest):
                        self.assertTrue(least is None or (value is not None and value <= least), (steps, values, paper))
                    if are_kept_values(program, steps, values):
                        self.alike(values, rest)
        self.assertGreater(taken, 100)

    def test_bent_at_each_part(self):
        self.assertIs(is_paper(LOOP, ALL, LOOP_VALUES, LOOP_PAPER), True)
        for at, (option, height, rank) in enumerate(LOOP_PAPER):
            for entry in ((option, height + 1, rank), (option, height - 1, rank), (option, None, rank), (option, height, -1),
                          (option, height, None), (option, height, True), (option, height), (option, height, rank, 0),
                          [option, height, rank], (list(option), height, rank), (None, height, rank), None, (height, rank),
                          ((9, 0), height, rank), ((True, 0), height, rank), (option, str(height), rank),
                          (option + (0,), height, rank), ((option[0], 1), height, rank), ([], [], [])):
                self.assertIs(is_paper(LOOP, ALL, LOOP_VALUES, changed(LOOP_PAPER, at, entry)), False, (at, entry))
            for value in (LOOP_VALUES[at] + 1, LOOP_VALUES[at] - 1, None):
                values = LOOP_VALUES[:at] + [value] + LOOP_VALUES[at + 1:]
                self.assertIs(is_paper(LOOP, ALL, values, LOOP_PAPER), False, (at, value))
            self.assertIs(is_paper(LOOP, ALL, LOOP_VALUES, LOOP_PAPER[:at] + LOOP_PAPER[at + 1:]), False)
            self.assertIs(is_paper(LOOP, ALL, LOOP_VALUES, LOOP_PAPER[:at + 1] + LOOP_PAPER[at:]), False)
        for value in (tuple(LOOP_PAPER), None, {}, [], LOOP_PAPER[::-1], [None] * 6, [()] * 6):
            self.assertIs(is_paper(LOOP, ALL, LOOP_VALUES, value), False)
        self.assertIs(is_paper(LOOP, [0, 1], LOOP_VALUES[:4], LOOP_PAPER[:4]), True)
        self.assertIs(is_paper(LOOP, [0, 1], LOOP_VALUES[:4], LOOP_PAPER), False)

    def test_ranks(self):
        """The rank has to be greater than that of each side that is just as high, however much."""
        for at, rank, expected in ((0, 1, True), (0, 2, False), (0, 0, False), (2, 0, True), (2, 1, False), (1, 0, True),
                                   (1, 1, False), (3, 1, True), (3, 0, False), (3, FAR, True), (4, 2, True), (4, 1, False),
                                   (4, 7, True), (5, FAR, True)):
            option, height, _ = LOOP_PAPER[at]
            paper = changed(LOOP_PAPER, at, (option, height, rank))
            self.assertIs(is_paper(LOOP, ALL, LOOP_VALUES, paper), expected, (at, rank))

    def test_another_option(self):
        paper = changed(LOOP_PAPER, 0, ((None, 0), 10, 1))
        self.assertIs(is_paper(LOOP, ALL, LOOP_VALUES, paper), False)
        # By the step back its low end would hold itself up.
        paper = changed(LOOP_PAPER, 1, ((1, 0), 0, 2))
        self.assertIs(is_paper(LOOP, ALL, LOOP_VALUES, paper), False)
        paper = [((None, 0), 0, 0), ((None, 0), 0, 0), ((0, 0), 0, 1), ((0, 0), 0, 1)]
        self.assertIs(is_paper(LOOP, [0, 1], [0, 0, 0, 0], paper), True)
        self.assertIs(are_kept_values(LOOP, [0, 1], [0, 0, 0, 0]), False)

    def test_a_side_with_an_endless_bound_will_do_for_a_number(self):
        both = (["x", "y"], 2, [(0, None), (3, 3)], [(0, 1, ("below", "x", "y", 0))])
        values = rest_of(both, [0])
        self.alike(values, [None, 0, 3, -3, 3, 0, 3, -3])
        paper = paper_of(both, [0])
        for height, rank in ((-FAR, 9), (0, 0), (FAR, FAR)):
            self.assertIs(is_paper(both, [0], values, changed(paper, 0, ((None, 0), height, rank))), True)

    def test_heights_of_endless_values(self):
        """x climbs by 1 round a ring of two: the heights along it may fall by no more than is added."""
        values = rest_of(UP, ALL)
        self.alike(values, [None, None, None, None])
        low = [((2, 0), 0, 0), ((0, 0), 0, 0)]
        for here, there, rank, other, expected in (
                (0, 0, 1, 0, True), (0, 0, 0, 0, False), (0, 1, 0, 0, False), (0, 1, 0, 1, True), (1, 0, 0, 0, False),
                (5, 5, 1, 0, True), (-FAR, -FAR, 3, 2, True), (0, 1, 1, 0, False), (0, 0, 0, 1, False), (1, 1, 9, 0, True)):
            paper = [((1, 0), here, rank), low[0], ((0, 0), there, other), ((0, 0), -1, 1)]
            self.assertIs(is_paper(UP, ALL, values, paper), expected, (here, there, rank, other))
        more = UP[:3] + ([(0, 1, ("add", "x", "x", 3))] + UP[3][1:],)
        for here, there, rank, other, expected in (
                (0, 1, 0, 0, True), (0, 2, 0, 5, True), (0, 3, 0, 1, True), (0, 3, 0, 0, False), (0, 4, 0, 1, False),
                (0, 0, 0, 0, False), (0, 0, 1, 0, True), (1, 0, 0, 0, False)):
            paper = [((1, 0), here, rank), low[0], ((0, 0), there, other), ((0, 0), -3, 1)]
            self.assertIs(is_paper(more, ALL, values, paper), expected, (here, there, rank, other))

    def test_what_does_not_climb_has_no_paper(self):
        for number in (0, -1):
            still = (["x"], 2, [(0, 0)], [(0, 1, ("add", "x", "x", number)), (1, 0, ("go",))])
            for here in range(-2, 3):
                for there in range(-2, 3):
                    for rank in range(3):
                        paper = [((1, 0), here, rank), ((None, 0), 0, 0), ((0, 0), there, 1), ((0, 0), -number, 1)]
                        self.assertIs(is_paper(still, [0, 1], [None, 0, None, -number], paper), False)

    def test_endless_values_need_endless_sides(self):
        cut = (["x"], 1, [(0, None)], [(0, 0, ("upto", "x", 4))])
        paper = [((None, 0), 0, 0), ((None, 0), 0, 0)]
        self.assertIs(is_paper(cut, [0], [None, 0], paper), True)
        self.assertIs(is_paper(cut, [0], [None, 0], changed(paper, 0, ((0, 0), 0, 1))), False)
        self.assertIs(is_paper(cut, [0], [None, None], [((None, 0), 0, 0), ((None, 0), 0, 0)]), False)
        self.assertIs(is_paper(cut, [0], [7, 0], [((None, 0), 7, 0), ((None, 0), 0, 0)]), True)
        self.assertIs(is_paper(cut, [0], [-3, 0], [((None, 0), -3, 0), ((None, 0), 0, 0)]), True)
        two = (["x", "y"], 1, [(0, None), (5, 5)], [(0, 0, ("greatest", "y", "x", "y")), (0, 0, ("least", "x", "y", "x"))])
        values = [None, 0, None, -5]
        self.alike(rest_of(two, [0]), values)
        self.assertIs(is_paper(two, [0], values, paper_of(two, [0])), True)
        paper = [((None, 0), 0, 0), ((None, 0), 0, 0), ((0, 0), 0, 1), ((None, 0), -5, 0)]
        self.assertIs(is_paper(two, [0], values, paper), True)
        self.assertIs(is_paper(two, [0], values, changed(paper, 2, ((0, 1), 0, 1))), False)
        self.assertIs(is_paper(two, [0, 1], values, changed(paper, 0, ((1, 0), 0, 2))), False)
        self.assertIs(is_paper(two, [0, 1], [None, 0, 5, -5], changed(paper, 2, ((None, 0), 5, 0))), True)

    def test_values_that_are_none(self):
        for values in ([0] * 5, [0] * 7, None, tuple(LOOP_VALUES), [True] + LOOP_VALUES[1:], ["nothing"] * 6):
            self.refused(errors.InvalidTable, values, is_paper, LOOP, ALL, values, LOOP_PAPER)


class Proofs(Case):
    def test_told_ones_are_taken(self):
        for program in some_programs(83, 300):
            least = least_table(program)
            proof = proof_of(program)
            self.assertIs(is_proof(program, proof), True)
            self.assertIs(is_proof_of(program, least, proof), True)
            for many in range(len(proof)):
                self.assertIs(is_proof(program, proof[:many]), True)
                ends = proof[many - 1][1] if many else [program[2]] + [None] * (program[1] - 1)
                self.assertIs(is_proof_of(program, least, proof[:many]), ends == least)

    def test_by_openings_of_any_kind(self):
        chance = dice(84)
        for program in some_programs(85, 150):
            least = least_table(program)
            for rows in (openings(program), openings_by(program, [chance.randint(0, 9) for _ in range(5)])):
                proof = [(opened, table, paper_of(program, opened)) for opened, table in rows]
                self.assertIs(is_proof_of(program, least, proof), True)

    def test_bent_at_each_part(self):
        self.assertIs(is_proof_of(LOOP, LEAST, PROOF), True)
        for at, (opened, table, paper) in enumerate(PROOF):
            for link in (None, [opened, table, paper], (opened, table), (opened, table, paper, 0), (tuple(opened), table, paper),
                         (opened, tuple(table), paper), (opened, table, tuple(paper)), (opened[::-1] + [2, 2], table, paper),
                         (opened + [3], table, paper), ([], table, paper), (None, table, paper), (opened, None, paper),
                         (opened, table, None), (opened, table, paper[1:]), (opened, [None] + table[1:], paper),
                         (opened, [[(0, 77)]] + table[1:], paper), (opened, [[(-1, 10)]] + table[1:], paper),
                         (opened, [row or [(0, 0)] for row in table[::-1]], paper), (opened, table[:2], paper),
                         ([False] + opened[1:], table, paper), (opened, table, [entry[::-1] for entry in paper])):
                self.assertIs(is_proof(LOOP, PROOF[:at] + [link]), False, (at, link))
                self.assertIs(is_proof_of(LOOP, LEAST, PROOF[:at] + [link] + PROOF[at + 1:]), False)
        for value in (PROOF[1:], PROOF[:1] + PROOF[2:], PROOF[::-1], tuple(PROOF), None, {}, [[]], [()], [PROOF]):
            self.assertIs(is_proof(LOOP, value), False)
            self.assertIs(is_proof_of(LOOP, LEAST, value), False)

    def test_links_may_come_again_or_open_fewer_steps(self):
        again = copied(PROOF[:2] + PROOF[1:2] + PROOF[:1] + PROOF)
        self.assertIs(is_proof(LOOP, again), True)
        self.assertIs(is_proof_of(LOOP, LEAST, again), True)
        fewer = copied(PROOF[:2] + PROOF[:1])
        self.assertIs(is_proof(LOOP, fewer), True)
        self.assertIs(is_proof(LOOP, fewer + PROOF[2:]), False)

    def test_values_that_are_not_the_least_ones(self):
        """A paper of less than the least values will do, and then the table is no kept one."""
        paper = [((None, 0), 0, 0), ((None, 0), 0, 0), ((0, 0), 0, 1), ((0, 0), 0, 1)]
        less = PROOF[:1] + [([0, 1], [[(0, 0)], [(0, 0)], None], paper)]
        self.assertIs(is_proof(LOOP, less), True)
        self.assertIs(is_proof_of(LOOP, less[1][1], less), False)
        self.assertIs(is_kept(LOOP, less[1][1]), False)

    def test_steps_that_cannot_hold_ahead(self):
        paper = [((1, 0), 9, 0), ((None, 0), 0, 0), ((0, 0), 9, 1), ((0, 0), -5, 0)]
        table = [[(0, 9)], [(5, 9)]]
        self.assertIs(is_paper(ITSELF, [0, 1], values_of_table(ITSELF, [0, 1], table), paper), True)
        self.assertIs(is_proof(ITSELF, [([0, 1], table, paper)]), False)
        self.assertIs(is_kept(ITSELF, table), True)
        self.assertIs(is_proof_of(ITSELF, [[(0, 0)], None], []), True)

    def test_the_empty_one_ends_in_the_first_table(self):
        self.assertIs(is_proof(LOOP, []), True)
        first = [[(0, 0)], None, None]
        self.assertIs(is_proof_of(LOOP, first, []), False)
        done = (["x"], 2, [(None, 4)], [(1, 0, ("go",))])
        self.alike(proof_of(done), [])
        self.assertIs(is_proof_of(done, [[(None, 4)], None], []), True)
        self.assertIs(is_proof_of(done, [[(None, 5)], None], []), False)
        self.assertIs(is_proof_of(done, [[(None, 4)], [(None, 4)]], []), False)

    def test_all_tables_lie_within_the_least(self):
        for program in some_programs(86, 100):
            least = least_table(program)
            for _, table, _ in proof_of(program):
                self.assertTrue(table_within(program, table, least))

    def test_within_seconds_up_to_the_limits(self):
        chance = dice(87)
        began = time.perf_counter()
        for top in (3, 50, FAR, FAR):
            program = any_great(chance, top)
            least, proof = least_table(program), proof_of(program)
            self.assertIs(is_proof_of(program, least, proof), True)
            opened = list(range(30))
            self.assertIs(is_paper(program, opened, rest_of(program, opened), paper_of(program, opened)), True)
            for bound in bounds_of(program)[::13]:
                for number in (0, -FAR, FAR):
                    self.assertIs(is_answer(program, bound, number, answer_to(program, bound, number)), True)
        self.assertLess(time.perf_counter() - began, 40)


class Answers(Case):
    def test_claims(self):
        for program in some_programs(88, 200):
            least = least_table(program)
            for bound in bounds_of(program):
                end = None if least[bound[0]] is None else end_at(program, least, bound)
                for number in ([-1, 0, 1, FAR, -FAR] if end is None else [end - 1, end, end + 1, FAR, -FAR]):
                    if least[bound[0]] is None:
                        expected = True
                    else:
                        expected = end is not None and (end <= number if bound[2] == "high" else end >= number)
                    self.assertIs(is_shown(program, bound, number), expected)
                    answer = answer_to(program, bound, number)
                    self.assertIs(is_answer(program, bound, number, answer), True)
                    self.alike(answer[0], "yes" if expected else "no")
                    self.assertIs(is_answer(program, bound, number, ("yes", least)), expected)
                    self.assertIs(is_answer(program, bound, number, ("no", proof_of(program))), not expected)

    def test_wider_tables_and_shorter_proofs_do_too(self):
        wider = [[(-2, 12)], [(-2, 9)], [(10, 12)]]
        for number, expected in ((12, True), (13, True), (11, False), (10, False)):
            self.assertIs(is_answer(LOOP, HIGH, number, ("yes", wider)), expected)
        none = [[(0, 9)], [(0, 9)], None]
        self.assertIs(is_answer(LOOP, HIGH, 9, ("yes", none)), False)
        self.assertIs(is_answer(LOOP, (2, "i", "low"), 10, ("yes", wider)), True)
        self.assertIs(is_answer(LOOP, (2, "i", "low"), 11, ("yes", wider)), False)
        for number, many, expected in ((-1, 0, True), (0, 0, False), (0, 1, False), (0, 2, True), (9, 2, True), (10, 2, False),
                                       (9, 3, True), (10, 3, False)):
            self.assertIs(is_answer(LOOP, HIGH, number, ("no", PROOF[:many])), expected, (number, many))
        self.assertIs(is_answer(LOOP, (2, "i", "low"), 11, ("no", PROOF[:2])), False)
        self.assertIs(is_answer(LOOP, (2, "i", "low"), 11, ("no", PROOF)), True)

    def test_nothing_comes_and_endless(self):
        self.assertIs(is_shown(ITSELF, (1, "x", "high"), -FAR), True)
        self.alike(answer_to(ITSELF, (1, "x", "low"), FAR), ("yes", [[(0, 0)], None]))
        self.assertIs(is_shown(UP, (0, "x", "high"), FAR), False)
        self.assertIs(is_shown(UP, (0, "x", "low"), -FAR), False)

    def test_bent(self):
        for value in (("yes", LEAST, 0), ["yes", LEAST], ("yes",), ("Yes", LEAST), ("no", LEAST), ("yes", PROOF), None, LEAST,
                      (LEAST, "yes"), ("yes", LEAST[:2]), ("yes", tuple(LEAST)), ("yes", None), (["yes"], LEAST), {},
                      ("yes", [[(0, 9)], [(0, 9)], [(10, 10)]]), (True, LEAST), "yes", ("yes", [[(False, 10)]] + LEAST[1:])):
            self.assertIs(is_answer(LOOP, HIGH, 10, value), False)
        for value in (("no", PROOF[1:]), ("no", tuple(PROOF)), ("no", None), ("no", PROOF, 0), ["no", PROOF], ("yes", PROOF),
                      ("no", []), ("no", PROOF[::-1]), (False, PROOF), ("no", [[]])):
            self.assertIs(is_answer(LOOP, HIGH, 8, value), False)

    def test_numbers(self):
        for number in (None, True, "9", [9], (9,)):
            self.refused(errors.InvalidNumber, number, is_shown, LOOP, HIGH, number)
            self.refused(errors.InvalidNumber, number, answer_to, LOOP, HIGH, number)
            self.refused(errors.InvalidNumber, number, is_answer, LOOP, HIGH, number, ("yes", LEAST))
            self.refused(errors.InvalidBound, None, is_shown, LOOP, None, number)
