"""[70] and [71] Places put together, and places split."""

from stillranges import errors
from stillranges.kinds import is_program
from stillranges.least import least_table
from stillranges.ranges import row_within
from stillranges.running import all_reached
from stillranges.shapes import joined_places, split_place
from tests.helpers import FULL, LOOP, Case, any_program, dice

WAYS = (["x"], 4, [(0, 0)], [(0, 1, ("set", "x", 1)), (0, 1, ("set", "x", 8)), (1, 2, ("upto", "x", 4)), (1, 3, ("from", "x", 5))])


def some_programs(seed, many):
    chance = dice(seed)
    for _ in range(many):
        yield any_program(chance, names=chance.randint(1, 2), places=chance.randint(1, 4), steps=chance.randint(0, 8),
                          endless=chance.choice([0, 0.2])), chance


def number_now(place, one, other):
    places = list(range(20))
    places[other] = one
    places[other + 1:] = [number - 1 for number in places[other + 1:]]
    return places[place]


class Joined(Case):
    def test_numbers_of_places(self):
        go = ("go",)
        program = (["x"], 4, [(0, 3)], [(0, 1, go), (1, 2, ("set", "x", 2)), (2, 3, go), (3, 0, go), (1, 1, go), (3, 1, go), (2, 2, go)])
        for one, other, expected in (
                (0, 1, [(0, 0), (0, 1), (1, 2), (2, 0), (0, 0), (2, 0), (1, 1)]),
                (0, 3, [(0, 1), (1, 2), (2, 0), (0, 0), (1, 1), (0, 1), (2, 2)]),
                (1, 2, [(0, 1), (1, 1), (1, 2), (2, 0), (1, 1), (2, 1), (1, 1)]),
                (1, 3, [(0, 1), (1, 2), (2, 1), (1, 0), (1, 1), (1, 1), (2, 2)]),
                (2, 3, [(0, 1), (1, 2), (2, 2), (2, 0), (1, 1), (2, 1), (2, 2)])):
            new = joined_places(program, one, other)
            self.alike(new, (["x"], 3, [(0, 3)], [(*places, deed) for places, (_, _, deed) in zip(expected, program[3])]))

    def test_never_narrower(self):
        wider = 0
        for program, chance in some_programs(261, 300):
            if program[1] < 2:
                continue
            one, other = sorted(chance.sample(range(program[1]), 2))
            new = joined_places(program, one, other)
            self.assertIs(is_program(new), True)
            least, told = least_table(program), least_table(new)
            for place, row in enumerate(least):
                if row is not None:
                    self.assertTrue(row_within(program, row, told[number_now(place, one, other)]))
            rows = [row for place, row in enumerate(least) if place != other]
            wider += rows != told
        self.assertGreater(wider, 50)

    def test_wrong_places(self):
        for one in (4, -1, True, None, "0", [0]):
            self.refused(errors.InvalidPlace, one, joined_places, FULL, one, 3)
            self.refused(errors.InvalidPlace, one, joined_places, FULL, one, None)
            self.refused(errors.InvalidPlace, one, joined_places, FULL, 0, one)
        for one, other in ((0, 0), (1, 0), (3, 3), (3, 1), (2, 1), (1, False)):
            self.refused(errors.InvalidPlace, other, joined_places, FULL, one, other)
        alone = (["x"], 1, [(0, 0)], [])
        self.refused(errors.InvalidPlace, 1, joined_places, alone, 0, 1)


class Split(Case):
    def test_steps_between_and_loops(self):
        go, put = ("go",), ("set", "x", 2)
        program = (["x"], 3, [(0, 3)], [(0, 1, go), (1, 1, put), (2, 1, go), (1, 2, go), (0, 0, go), (2, 0, put)])
        self.alike(split_place(program, 1, []), (["x"], 4, [(0, 3)], program[3] + [(3, 1, put), (3, 2, go)]))
        self.alike(split_place(program, 1, [0]), (["x"], 4, [(0, 3)], [
            (0, 3, go), (1, 1, put), (2, 1, go), (1, 2, go), (0, 0, go), (2, 0, put), (3, 1, put), (3, 2, go)]))
        # A step from the place to itself that leads to the new one does so from both.
        self.alike(split_place(program, 1, [1]), (["x"], 4, [(0, 3)], [
            (0, 1, go), (1, 3, put), (2, 1, go), (1, 2, go), (0, 0, go), (2, 0, put), (3, 3, put), (3, 2, go)]))
        self.alike(split_place(program, 1, [0, 1, 2])[3][:3], [(0, 3, go), (1, 3, put), (2, 3, go)])
        self.alike(split_place(program, 0, [4, 5])[3], program[3][:4] + [(0, 3, go), (2, 3, put), (3, 1, go), (3, 3, go)])
        self.alike(split_place(program, 0, [5])[3][4:], [(0, 0, go), (2, 3, put), (3, 1, go), (3, 0, go)])
        self.alike(split_place(program, 2, [3])[3][3:], [(1, 3, go), (0, 0, go), (2, 0, put), (3, 1, go), (3, 0, put)])

    def test_never_wider_and_as_it_was_when_put_together(self):
        narrower, nothing = 0, 0
        for program, chance in some_programs(262, 400):
            place = chance.randrange(program[1])
            into = [number for number, (_, target, _) in enumerate(program[3]) if target == place]
            steps = [number for number in into if chance.random() < 0.5]
            new = split_place(program, place, steps)
            self.assertIs(is_program(new), True)
            least, told = least_table(program), least_table(new)
            for at, row in enumerate(told):
                if row is not None:
                    old = least[place if at == program[1] else at]
                    self.assertTrue(old is not None and row_within(program, row, old))
            again = joined_places(new, place, program[1])
            self.alike(least_table(again), least)
            narrower += told[:program[1]] != least
            nothing += told[-1] is None
        self.assertTrue(narrower > 50 and nothing > 50, (narrower, nothing))

    def test_the_states_are_the_same(self):
        split = split_place(WAYS, 1, [1])
        self.alike(sorted((1 if place == 4 else place, numbers) for place, numbers in all_reached(split)), all_reached(WAYS))
        self.alike(least_table(split), [[(0, 0)], [(1, 1)], [(1, 1)], [(8, 8)], [(8, 8)]])

    def test_wrong_arguments(self):
        for place in (4, -1, True, None, "0", [0]):
            self.refused(errors.InvalidPlace, place, split_place, FULL, place, [])
            self.refused(errors.InvalidPlace, place, split_place, FULL, place, None)
        for steps in ([2], [0, 2], [1, 0], [0, 0], (0,), None, [True], [False], [-1], [3], ["0"], [[0]], 0, {}):
            self.refused(errors.InvalidStep, steps, split_place, LOOP, 1, steps)
        self.alike(split_place(LOOP, 1, [0])[3][0], (0, 3, ("upto", "i", 9)))
