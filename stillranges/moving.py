"""Moves and runs. Programs, states and tables are trusted to be some.

With a width all goes as on a machine that wraps numbers to it, without one (None) numbers are of any size.
"""

from stillranges.deeds import numbers_behind, passes
from stillranges.plain import a_step_number, a_whole, some_numbers
from stillranges.rows import row_holds
from stillranges.spans import holds
from stillranges.wrapping import number_wrapped


def step_goes(program, state, step, width=None):
    """Whether some move by a step can go from a state: no range of an input is empty."""
    source, _, deed = program[3][step]
    return source == state[0] and passes(program[0], deed, state[1], width)


def move_goes(program, state, value, width=None):
    """Whether any value is a move that can go from a state."""
    if not isinstance(value, tuple) or len(value) != 2:
        return False
    step, number = value
    if not a_step_number(program, step) or not step_goes(program, state, step, width):
        return False
    deed = program[3][step][2]
    if deed[0] == "input":
        return a_whole(number) and holds(deed[2], number)
    return number is None


def state_after(program, state, move, width=None):
    step, number = move
    _, target, deed = program[3][step]
    return (target, numbers_behind(program[0], deed, state[1], number, width))


def states_as_far(program, numbers, moves, width=None):
    """The states to which some moves lead from numbers at the place 0, as far as they can go."""
    states = [(0, [number_wrapped(width, number) for number in numbers])]
    for move in moves:
        if not move_goes(program, states[-1], move, width):
            return states
        states.append(state_after(program, states[-1], move, width))
    return states


def run_states(program, value, width=None):
    """The states of a run, None if the value is none."""
    if not isinstance(value, tuple) or len(value) != 2:
        return None
    numbers, moves = value
    if not some_numbers(program, numbers) or not row_holds(program[2], numbers) or not isinstance(moves, list):
        return None
    states = states_as_far(program, numbers, moves, width)
    return states if len(states) == len(moves) + 1 else None


def table_holds(table, state):
    place, numbers = state
    return table[place] is not None and row_holds(table[place], numbers)
