"""Hulls of states, what ranges lose beside them, and runs that can be gone on for ever."""

from stillranges.errors import InvalidState
from stillranges.exploring import found_within, run_found, states_found
from stillranges.moving import move_goes, run_states, state_after
from stillranges.needs import need_bound, need_count, need_program
from stillranges.opening import least_of
from stillranges.options import bounds_at
from stillranges.plain import a_state
from stillranges.roundabout import most_moves_of, round_found
from stillranges.rows import end_of, joined_at_place


def _hull_table(program, states):
    table = [None] * program[1]
    for place, numbers in states:
        table[place] = joined_at_place(table[place], [(number, number) for number in numbers])
    return table


def _whole_hull_of(program):
    return _hull_table(program, states_found(found_within(program, None)))


def hull_of(program, states):
    """The least table that holds some states."""
    need_program(program)
    if not isinstance(states, list) or not all([a_state(program, state) for state in states]):
        raise InvalidState(states)
    return _hull_table(program, states)


def hull(program, most):
    """The hull of the states of all runs of at most so many moves."""
    need_program(program)
    need_count(most)
    return _hull_table(program, states_found(found_within(program, most)))


def whole_hull(program):
    """The hull of the states of all runs."""
    need_program(program)
    return _whole_hull_of(program)


def _lost_at(program, least, held, place):
    """The bounds of a place at which the least table is wider than the hull."""
    if least[place] is None:
        return []
    bounds = bounds_at(program, place)
    if held[place] is None:
        return bounds
    return [bound for bound in bounds if end_of(program, least, bound) != end_of(program, held, bound)]


def lost_bounds(program):
    """The bounds at which the least table is wider than the whole hull."""
    need_program(program)
    held = _whole_hull_of(program)
    least = least_of(program)
    return [bound for place in range(program[1]) for bound in _lost_at(program, least, held, place)]


def run_to_bound(program, bound):
    """The first one of the shortest runs that come to a bound's end in the least table, None if there is none."""
    need_program(program)
    need_bound(program, bound)
    found = found_within(program, None)
    place, name, _ = bound
    least = least_of(program)
    if least[place] is None:
        return None
    end = end_of(program, least, bound)
    for key in found:
        if key[0] == place and key[1][program[0].index(name)] == end:
            return run_found(found, key)
    return None


def _leads_round(program, state, moves):
    """Whether any value is a list, not empty, of moves that lead from a state back to it."""
    if not isinstance(moves, list) or not moves:
        return False
    at = state
    for move in moves:
        if not move_goes(program, at, move):
            return False
        at = state_after(program, at, move)
    return at == state


def is_round(program, value):
    """Whether any value is a run with moves that lead from its last state back to this state."""
    need_program(program)
    if not isinstance(value, tuple) or len(value) != 2:
        return False
    states = run_states(program, value[0])
    return states is not None and _leads_round(program, states[-1], value[1])


def any_round(program):
    """Any round, None if there is none."""
    need_program(program)
    return round_found(program, found_within(program, None))


def most_moves(program):
    """The greatest number of moves of a run, None if some run can be gone on for ever."""
    need_program(program)
    return most_moves_of(program, found_within(program, None))
