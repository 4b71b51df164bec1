"""Widths: what numbers fit, which sums do, and running on a machine that wraps the ones that don't."""

from stillranges.moving import run_states, states_as_far
from stillranges.needs import need_number, need_program, need_range, need_step
from stillranges.opening import least_of
from stillranges.run_needs import need_program_and_width, need_width, needed_states
from stillranges.sums import starts_fitting, steps_wanting, sum_at
from stillranges.wrapping import number_wrapped, width_needed


def fits(width, number):
    need_width(width)
    need_number(number)
    return width_needed(number) <= width


def wrapped(width, number):
    """The number that fits and differs from a number by a multiple of 2 ** width."""
    need_width(width)
    need_number(number)
    return number_wrapped(width, number)


def _width_of_all(spans):
    """The least width that some ranges fit, None if there is none."""
    ends = [end for span in spans for end in span]
    return None if None in ends else max([width_needed(end) for end in ends])


def width_of(span):
    """The least width that a range fits, None if there is none."""
    need_range(span)
    return _width_of_all([span])


def widths_of(program):
    """The least width that the ranges of each name in the least table fit, None if there is none."""
    need_program(program)
    rows = [row for row in least_of(program) if row is not None]
    return [_width_of_all([row[at] for row in rows]) for at in range(len(program[0]))]


def start_fits(program, width):
    need_program_and_width(program, width)
    return starts_fitting(program, width)


def sum_range(program, step):
    """The range of the sums of a step in the least table, None if it has none, or nothing comes to its source."""
    need_program(program)
    need_step(program, step)
    source, _, deed = program[3][step]
    return sum_at(program, least_of(program), deed, source)


def wants_check(program, step, width):
    """Whether the range of the sums of a step is there and does not fit."""
    need_program(program)
    need_step(program, step)
    need_width(width)
    return step in steps_wanting(program, least_of(program), width)


def wanting(program, width):
    """The numbers of the steps that want a check."""
    need_program_and_width(program, width)
    return steps_wanting(program, least_of(program), width)


def is_wrapped_run(program, width, value):
    """Whether any value is a run on a machine of a width."""
    need_program_and_width(program, width)
    return run_states(program, value, width) is not None


def wrapped_states(program, width, run):
    """The states to which the moves of a run lead on a machine of a width, as far as they can go."""
    need_program_and_width(program, width)
    needed_states(program, run)
    return states_as_far(program, run[0], run[1], width)


def first_unlike(program, width, run):
    """The number of the first state of a run to which a machine of a width does not come, None if there is none."""
    need_program_and_width(program, width)
    states = needed_states(program, run)
    come_to = states_as_far(program, run[0], run[1], width)
    for number, state in enumerate(states):
        if number == len(come_to) or come_to[number] != state:
            return number
    return None
