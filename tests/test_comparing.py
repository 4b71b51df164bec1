"""[67] Comparing two programs."""

from stillranges import errors
from stillranges.comparing import first_unlike_place, is_wider, same_table
from stillranges.least import least_table
from stillranges.ranges import span_within, table_within
from tests.helpers import CLIMB, FAR, FULL, LOOP, Case, any_deed, any_program, any_span, dice

ALL = (same_table, first_unlike_place, is_wider)


def pairs(seed, many):
    """Programs and other ones, with some steps and ranges that are other ones."""
    chance = dice(seed)
    for _ in range(many):
        program = any_program(chance, names=2, places=3, steps=chance.randint(0, 6), endless=chance.choice([0, 0.2]))
        steps = [(source, target, any_deed(chance, program[0]) if chance.random() < 0.2 else deed)
                 for source, target, deed in program[3] if chance.random() < 0.9]
        start = [any_span(chance, -1, 1) if chance.random() < 0.2 else span for span in program[2]]
        yield program, (program[0], 3, start, steps), chance


class Comparing(Case):
    def test_against_the_words(self):
        same, wider, neither = 0, 0, 0
        for program, other, _ in pairs(241, 600):
            one, two = least_table(program), least_table(other)
            unlike = [place for place in range(3) if one[place] != two[place]]
            self.assertIs(same_table(program, other), one == two)
            self.alike(first_unlike_place(program, other), unlike[0] if unlike else None)
            self.assertIs(is_wider(program, other), table_within(program, two, one))
            same += one == two
            wider += is_wider(program, other) and one != two
            neither += not is_wider(program, other) and not is_wider(other, program)
        self.assertTrue(same > 150 and wider > 80 and neither > 20, (same, wider, neither))

    def test_more_steps_and_wider_starts_never_make_a_range_narrower(self):
        for program, _, chance in pairs(242, 300):
            steps = [step for step in program[3] if chance.random() < 0.6]
            chance.shuffle(steps)
            start = [(low if low is None else low - chance.randint(0, 2), high if chance.random() < 0.7 else None)
                     for low, high in program[2]]
            self.assertTrue(all(span_within(one, other) for one, other in zip(program[2], start)))
            fewer = (program[0], 3, program[2], steps + steps[:1])
            self.assertIs(is_wider(program, fewer), True)
            self.assertIs(is_wider(program[:2] + (start, program[3]), program), True)
            self.assertIs(is_wider(program[:2] + (start, program[3]), fewer), True)

    def test_a_step_that_stands_twice_and_no_steps(self):
        twice = LOOP[:3] + (LOOP[3] + LOOP[3],)
        self.alike([function(LOOP, twice) for function in ALL], [True, None, True])
        still = LOOP[:3] + ([],)
        self.alike([function(LOOP, still) for function in ALL], [False, 0, True])
        self.alike([function(still, LOOP) for function in ALL], [False, 0, False])
        one = LOOP[:3] + (LOOP[3][:1] + LOOP[3][2:],)
        self.alike([function(one, still) for function in ALL], [False, 1, True])
        far = LOOP[:3] + (LOOP[3][:2] + [(0, 2, ("from", "i", FAR))],)
        self.alike([function(LOOP, far) for function in ALL], [False, 2, True])
        self.alike([function(LOOP, LOOP) for function in ALL], [True, None, True])

    def test_other_names_and_places(self):
        for other in (CLIMB, FULL, (["i"], 4, [(0, 0)], LOOP[3]), (["i"], 2, [(0, 0)], []), (["i", "j"], 3, [(0, 0)] * 2, [])):
            for function in ALL:
                self.refused(errors.Unlike, other, function, LOOP, other)
                self.refused(errors.Unlike, LOOP, function, other, LOOP)

    def test_errors_of_both_come_ahead(self):
        for function in ALL:
            for value in (None, LOOP[:3], list(LOOP), 3, [], (["i"], 3, [(1, 0)], [])):
                self.refused(errors.InvalidProgram, value, function, LOOP, value)
                self.refused(errors.InvalidProgram, value, function, value, CLIMB)
                self.refused(errors.InvalidProgram, None, function, None, value)
