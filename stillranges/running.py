"""Running: moves, runs, the states that they reach, and whether runs leave a table."""

from stillranges.errors import InvalidStep
from stillranges.exploring import found_within, key_of, run_found, state_of, states_found
from stillranges.moving import move_goes, run_states, state_after, step_goes, table_holds
from stillranges.needs import need_count, need_program, need_state, need_table
from stillranges.run_needs import needed_states


def _steps_going(program, state):
    return [step for step in range(len(program[3])) if step_goes(program, state, step)]


def can_go(program, state, value):
    """Whether any value is a move that can go from a state."""
    need_program(program)
    need_state(program, state)
    return move_goes(program, state, value)


def state_behind(program, state, move):
    need_program(program)
    need_state(program, state)
    if not move_goes(program, state, move):
        raise InvalidStep(move)
    return state_after(program, state, move)


def steps_from(program, state):
    """The numbers of the steps with which some move can go from a state."""
    need_program(program)
    need_state(program, state)
    return _steps_going(program, state)


def is_run(program, value):
    need_program(program)
    return run_states(program, value) is not None


def states_of(program, run):
    """The states of a run, the first one ahead."""
    need_program(program)
    return needed_states(program, run)


def reached(program, most):
    """The states of all runs of at most so many moves, in order."""
    need_program(program)
    need_count(most)
    return states_found(found_within(program, most))


def all_reached(program):
    """The states of all runs, in order."""
    need_program(program)
    return states_found(found_within(program, None))


def first_run_to(program, state):
    """The first one of the shortest runs that end in a state, None if no run does."""
    need_program(program)
    need_state(program, state)
    found = found_within(program, None)
    key = key_of(state)
    return run_found(found, key) if key in found else None


def stuck_states(program):
    """The reached states from which no move can go, in order."""
    need_program(program)
    return [state for state in states_found(found_within(program, None)) if not _steps_going(program, state)]


def holds_state(program, table, state):
    need_program(program)
    need_table(program, table)
    need_state(program, state)
    return table_holds(table, state)


def first_left(program, table, run):
    """The number of the first state of a run that a table does not hold, None if it holds them all."""
    need_program(program)
    need_table(program, table)
    for number, state in enumerate(needed_states(program, run)):
        if not table_holds(table, state):
            return number
    return None


def shortest_leaving(program, table):
    """The first one of the shortest runs whose last state a table does not hold, None if there is none."""
    need_program(program)
    need_table(program, table)
    found = found_within(program, None)
    for key in found:
        if not table_holds(table, state_of(key)):
            return run_found(found, key)
    return None
