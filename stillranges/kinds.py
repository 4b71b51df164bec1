"""Values: what is an end, a range, a name, a program, and what belongs to a program."""

from stillranges.deeds import read_names, written_name
from stillranges.errors import InvalidBound
from stillranges.needs import need_bound, need_names, need_place, need_program, need_step, need_table
from stillranges.plain import SIDES, TESTS, a_bound, a_deed, a_name, a_place, a_program, a_range, a_row, a_state
from stillranges.plain import a_table, an_end, some_names, some_open
from stillranges.rows import end_of


def is_end(value):
    return an_end(value)


def is_range(value):
    return a_range(value)


def is_name(value):
    return a_name(value)


def are_names(value):
    return some_names(value)


def is_program(value):
    return a_program(value)


def is_deed(names, value):
    need_names(names)
    return a_deed(names, value)


def is_place(program, value):
    need_program(program)
    return a_place(program, value)


def is_state(program, value):
    need_program(program)
    return a_state(program, value)


def is_row(program, value):
    need_program(program)
    return a_row(program, value)


def is_table(program, value):
    need_program(program)
    return a_table(program, value)


def is_bound(program, value):
    need_program(program)
    return a_bound(program, value)


def is_open(program, value):
    need_program(program)
    return some_open(program, value)


def written_by(program, step):
    """The name that the deed of a step writes, None if it writes none."""
    need_program(program)
    need_step(program, step)
    return written_name(program[3][step][2])


def read_by(program, step):
    """The names that the deed of a step reads, in order, each once."""
    need_program(program)
    need_step(program, step)
    return read_names(program[3][step][2])


def is_test(program, step):
    need_program(program)
    need_step(program, step)
    return program[3][step][2][0] in TESTS


def steps_into(program, place):
    """The numbers of the steps that lead to a place."""
    need_program(program)
    need_place(program, place)
    return [number for number, step in enumerate(program[3]) if step[1] == place]


def steps_out(program, place):
    """The numbers of the steps that lead from a place."""
    need_program(program)
    need_place(program, place)
    return [number for number, step in enumerate(program[3]) if step[0] == place]


def bounds_of(program):
    """All bounds, in order."""
    need_program(program)
    return [(place, name, side) for place in range(program[1]) for name in program[0] for side in SIDES]


def end_at(program, table, bound):
    """A bound's value in a table."""
    need_program(program)
    need_table(program, table)
    need_bound(program, bound)
    if table[bound[0]] is None:
        raise InvalidBound(bound)
    return end_of(program, table, bound)
