"""What the tests share: programs, values of all sorts, and ways to compare and to refuse."""

import itertools
import random
import unittest

from stillranges import errors
from stillranges.live import LiveChecker
from stillranges.running import can_go

LOOP = (["i"], 3, [(0, 0)], [(0, 1, ("upto", "i", 9)), (1, 0, ("add", "i", "i", 1)), (0, 2, ("from", "i", 10))])
CLIMB = (["x"], 3, [(0, 1)], [(0, 1, ("upto", "x", 2)), (1, 0, ("add", "x", "x", 1)), (0, 2, ("from", "x", 3))])
ALL_DEEDS = [
    ("go",),
    ("set", "x", -4),
    ("add", "x", "y", 2),
    ("add", "y", "y", -3),
    ("turn", "x", "z", 5),
    ("turn", "z", "z", 0),
    ("input", "y", (-1, 1)),
    ("input", "z", (3, 3)),
    ("least", "x", "y", "z"),
    ("least", "x", "x", "z"),
    ("least", "z", "y", "y"),
    ("greatest", "y", "x", "z"),
    ("greatest", "x", "x", "x"),
    ("greatest", "z", "y", "z"),
    ("upto", "x", 1),
    ("from", "y", -1),
    ("below", "x", "y", 1),
    ("below", "z", "x", -2),
    ("equal", "y", "z", 0),
    ("equal", "x", "y", -1),
]
FULL = (["x", "y", "z"], 4, [(0, 1), (-2, 0), (1, 1)],
        [(number % 3, (number * 2 + 1) % 4, deed) for number, deed in enumerate(ALL_DEEDS)])
FAR = 10 ** 29
BIG = (["a", "b1"], 2, [(None, FAR), (-FAR, None)],
       [(0, 1, ("set", "a", FAR)), (1, 1, ("input", "b1", (None, None))), (1, 0, ("below", "a", "b1", -FAR))])


def nested(depth):
    value = []
    for _ in range(depth):
        value = [value, (value,)] if depth < 6 else [value]
    return value


JUNK = [
    None, True, False, 0, 1, -1, 2, 10 ** 29, -10 ** 29, "", "x", "i", "X", "x\n", "\t", "go", "low", "high", "..",
    [], (), {}, [None], (None,), [[]], [()], ((),), ([],), [True], (True,), {"x": [1]}, {1: (2,)}, [{}], ("go",),
    ["go"], ["x"], ("x",), [1], (1,), (0, None), [0, None], (None, None), (True, 1), (0, [True]), (0, "x", "low"),
    (True, "x", "low"), (0, ["x"], "low"), (0, "x", ["low"]), ([], [], []), (["x"], 1, [(0, 0)], []),
    [(0, 0)], [None, None], [[], []], nested(4), nested(29), errors.InvalidNumber(3), errors.NothingToUndo(),
    [errors.BoundError("x")], (errors.TooMany(), None), 0.5, LiveChecker((["x"], 1, [(0, 0)], [])),
    [LiveChecker((["x"], 1, [(0, 0)], []))],
]


def alike(one, other):
    """Whether two values are equal and of the same kinds throughout."""
    if type(one) is not type(other):
        return False
    if isinstance(one, (list, tuple)):
        return len(one) == len(other) and all(alike(a, b) for a, b in zip(one, other))
    if isinstance(one, dict):
        return alike(list(one.items()), list(other.items()))
    if isinstance(one, errors.BoundError):
        return one is other or alike(getattr(one, "value", None), getattr(other, "value", None))
    return one == other


def lists_in(value):
    """All lists in a value, at any depth, with each occurrence."""
    found = [value] if isinstance(value, list) else []
    if isinstance(value, (list, tuple)):
        for part in value:
            found.extend(lists_in(part))
    return found


def copied(value):
    if isinstance(value, list):
        return [copied(part) for part in value]
    if isinstance(value, tuple):
        return tuple(copied(part) for part in value)
    if isinstance(value, dict):
        return {key: copied(part) for key, part in value.items()}
    return value


def dice(seed):
    return random.Random(seed)


def any_span(chance, low=-3, high=3, endless=0.0):
    one, other = sorted([chance.randint(low, high), chance.randint(low, high)])
    return (None if chance.random() < endless else one, None if chance.random() < endless else other)


def any_deed(chance, names, low=-2, high=2, endless=0.0):
    word = chance.choice(["go", "set", "add", "turn", "input", "least", "greatest", "upto", "from", "below", "equal"])
    x, y, z = (chance.choice(names) for _ in range(3))
    c = chance.randint(low, high)
    if word == "go":
        return ("go",)
    if word in ("set", "upto", "from"):
        return (word, x, c)
    if word in ("add", "turn"):
        return (word, x, y, c)
    if word == "input":
        return (word, x, any_span(chance, low, high, endless))
    if word in ("least", "greatest"):
        return (word, x, y, z)
    if len(names) == 1:
        return ("go",)
    x, y = chance.sample(names, 2)
    return (word, x, y, c)


def any_program(chance, names=2, places=3, steps=5, endless=0.0):
    named = ["a", "b", "c", "d", "e"][:names]
    told = [(chance.randrange(places), chance.randrange(places), any_deed(chance, named, endless=endless))
            for _ in range(steps)]
    return (named, places, [any_span(chance, -1, 1, endless) for _ in named], told)


def numbers_held(row):
    """All lists of numbers that a row without endless ends holds."""
    return [list(numbers) for numbers in itertools.product(*[range(low, high + 1) for low, high in row])]


def moves_from(program, state):
    """All moves that can go from a state."""
    moves = []
    for step, (_, _, deed) in enumerate(program[3]):
        numbers = range(deed[2][0], deed[2][1] + 1) if deed[0] == "input" else [None]
        moves += [(step, number) for number in numbers if can_go(program, state, (step, number))]
    return moves


class Case(unittest.TestCase):
    def alike(self, one, other):
        self.assertTrue(alike(one, other), f"{one!r} is not {other!r}")

    def refused(self, error, value, function, *arguments):
        """The call raises just this error with just this value."""
        with self.assertRaises(errors.BoundError) as caught:
            function(*arguments)
        self.assertIs(type(caught.exception), error)
        self.assertIs(caught.exception.value, value)

    def too_many(self, function, *arguments):
        with self.assertRaises(errors.TooMany) as caught:
            function(*arguments)
        self.assertIs(type(caught.exception), errors.TooMany)
        self.alike(caught.exception.value, 2001)
