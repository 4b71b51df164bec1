"""Ranges, rows and tables: what they hold, what lies within what, joined and met."""

from stillranges.needs import need_number, need_program, need_range, need_ranges, need_row, need_table
from stillranges.rows import joined_at_place, joined_rows, met_at_place, met_rows, within_row, within_table
from stillranges.spans import greatest_of, holds, joined, least_of, lies_within, met, plus, size_of, turned_about


def span_holds(span, number):
    need_range(span)
    need_number(number)
    return holds(span, number)


def how_many_held(span):
    """How many numbers a range holds, None if it is endless on a side."""
    need_range(span)
    return size_of(span)


def span_within(span, other):
    """Whether a range lies within another one."""
    need_ranges(span, other)
    return lies_within(span, other)


def span_joined(span, other):
    """The least range within which two ranges lie."""
    need_ranges(span, other)
    return joined(span, other)


def span_met(span, other):
    """The range of the numbers that both hold, None if there are none."""
    need_ranges(span, other)
    return met(span, other)


def span_plus(span, number):
    """The range of all numbers of a range, more by a number."""
    need_range(span)
    need_number(number)
    return plus(span, number)


def span_turned(span, number):
    """The range of a number less each number of a range."""
    need_range(span)
    need_number(number)
    return turned_about(span, number)


def span_least(span, other):
    """The range of the lesser one of any number of the one and any of the other."""
    need_ranges(span, other)
    return least_of(span, other)


def span_greatest(span, other):
    """The range of the greater one of any number of the one and any of the other."""
    need_ranges(span, other)
    return greatest_of(span, other)


def _need_rows(program, row, other):
    need_program(program)
    need_row(program, row)
    need_row(program, other)


def _need_tables(program, table, other):
    need_program(program)
    need_table(program, table)
    need_table(program, other)


def row_within(program, row, other):
    _need_rows(program, row, other)
    return within_row(row, other)


def row_joined(program, row, other):
    """The least row within which both lie."""
    _need_rows(program, row, other)
    return joined_rows(row, other)


def row_met(program, row, other):
    """The row of the states that both hold, None if there are none."""
    _need_rows(program, row, other)
    return met_rows(row, other)


def table_within(program, table, other):
    _need_tables(program, table, other)
    return within_table(table, other)


def table_joined(program, table, other):
    """The least table within which both lie."""
    _need_tables(program, table, other)
    return [joined_at_place(row, beside) for row, beside in zip(table, other)]


def table_met(program, table, other):
    """The table of what both hold at each place, None where there is nothing."""
    _need_tables(program, table, other)
    return [met_at_place(row, beside) for row, beside in zip(table, other)]
