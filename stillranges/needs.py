"""What refuses an argument that is not of the kind it has to be."""

from stillranges.errors import InvalidBound, InvalidDeed, InvalidName, InvalidNumber, InvalidOpen, InvalidPlace
from stillranges.errors import InvalidProgram, InvalidRange, InvalidRow, InvalidState, InvalidStep, InvalidTable
from stillranges.errors import InvalidWish
from stillranges.plain import a_bound, a_count, a_deed, a_name_of, a_place, a_program, a_range, a_row, a_state
from stillranges.plain import a_step_number, a_table, a_whole, some_names, some_open, some_steps


def need_number(number):
    if not a_whole(number):
        raise InvalidNumber(number)


def need_count(number):
    if not a_count(number):
        raise InvalidNumber(number)


def need_range(span):
    if not a_range(span):
        raise InvalidRange(span)


def need_ranges(span, other):
    need_range(span)
    need_range(other)


def need_names(names):
    if not some_names(names):
        raise InvalidName(names)


def need_deed(names, deed):
    if not a_deed(names, deed):
        raise InvalidDeed(deed)


def need_program(program):
    if not a_program(program):
        raise InvalidProgram(program)


def need_name(program, name):
    if not a_name_of(program, name):
        raise InvalidName(name)


def need_step(program, step):
    if not a_step_number(program, step):
        raise InvalidStep(step)


def need_steps(program, steps):
    if not some_steps(program, steps):
        raise InvalidStep(steps)


def need_place(program, place):
    if not a_place(program, place):
        raise InvalidPlace(place)


def need_bound(program, bound):
    if not a_bound(program, bound):
        raise InvalidBound(bound)


def need_state(program, state):
    if not a_state(program, state):
        raise InvalidState(state)


def need_row(program, row):
    if not a_row(program, row):
        raise InvalidRow(row)


def need_table(program, table):
    if not a_table(program, table):
        raise InvalidTable(table)


def need_wish(program, wish):
    if not a_table(program, wish):
        raise InvalidWish(wish)


def need_open(program, opened):
    if not some_open(program, opened):
        raise InvalidOpen(opened)
