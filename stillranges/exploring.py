"""The states that runs come to, found from the shortest runs on. Programs are trusted to be some.

A state stands here as a key, a tuple of its place and the tuple of its numbers. What is found is a dict: for each
key, in the order in which the first ones of the shortest runs come to them, the key ahead and the move, None for a
beginning. Within one length the keys are in the order of their first runs, and moves are tried in order: so
whatever comes to a key first is the first one of its shortest runs.
"""

from stillranges.errors import TooMany
from stillranges.moving import state_after, step_goes
from stillranges.spans import size_of

MOST_STATES = 2000


def key_of(state):
    place, numbers = state
    return (place, tuple(numbers))


def state_of(key):
    place, numbers = key
    return (place, list(numbers))


def _need_few(many):
    if many is None or many > MOST_STATES:
        raise TooMany(MOST_STATES + 1)


def _beginnings(start):
    """All numbers that some ranges hold, in order."""
    many = 1
    for span in start:
        size = size_of(span)
        _need_few(size)
        many = many * size
        _need_few(many)
    held = [()]
    for low, high in start:
        held = [(*numbers, number) for numbers in held for number in range(low, high + 1)]
    return held


def left_by_input(program, key, step):
    """What an input leaves of a key: its step, and the numbers ahead of the one written and behind it."""
    at = program[0].index(program[3][step][2][1])
    return (step, key[1][:at], key[1][at + 1:])


def _input_moves(program, key, step, seen):
    """The moves by an input, none where its states behind are found: the number written alone is forgotten."""
    low, high = program[3][step][2][2]
    # Each number that comes in leads to a state of its own, so more of them are too many states.
    _need_few(size_of((low, high)))
    others = left_by_input(program, key, step)
    if others in seen:
        return []
    seen[others] = True
    return [(step, number) for number in range(low, high + 1)]


def _moves_from(program, key, seen):
    moves = []
    for step in range(len(program[3])):
        if not step_goes(program, key, step):
            continue
        if program[3][step][2][0] == "input":
            moves.extend(_input_moves(program, key, step, seen))
        else:
            moves.append((step, None))
    return moves


def _go_on(program, keys, found, seen):
    """Puts what is found behind some keys into `found`, and returns the list of it."""
    behind = []
    for key in keys:
        for move in _moves_from(program, key, seen):
            new = key_of(state_after(program, key, move))
            if new not in found:
                found[new] = (key, move)
                behind.append(new)
                _need_few(len(found))
    return behind


def found_within(program, most):
    """What is found by runs of at most so many moves, of any number if `most` is None."""
    found = {}
    for numbers in _beginnings(program[2]):
        found[(0, numbers)] = None
    seen = {}
    keys = list(found)
    moves = 0
    while keys and (most is None or moves < most):
        keys = _go_on(program, keys, found, seen)
        moves += 1
    return found


def states_found(found):
    """The list of the states that are found, in order."""
    return [state_of(key) for key in sorted(found)]


def run_found(found, key):
    """The first one, in order, of the shortest runs that end in a key."""
    moves = []
    at = key
    while found[at] is not None:
        at, move = found[at]
        moves.append(move)
    return (list(at[1]), moves[::-1])
