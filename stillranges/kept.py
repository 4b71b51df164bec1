"""What comes of rows and tables by deeds and steps, and whether a table is kept."""

from stillranges.causes import leads_to, numbers_ahead
from stillranges.needs import need_deed, need_name, need_number, need_program, need_row, need_step, need_table
from stillranges.plain import some_numbers
from stillranges.rows import cut_row, holds_start_row, kept_table, row_behind, row_by_step, steps_holding
from stillranges.rows import steps_not_kept, table_led


def _need_deed_and_row(program, deed, row):
    need_program(program)
    need_deed(program[0], deed)
    need_row(program, row)


def can_hold(program, deed, row):
    """Whether some numbers that a row holds pass a deed."""
    _need_deed_and_row(program, deed, row)
    return cut_row(program[0], deed, row) is not None


def comes_of(program, deed, row):
    """What comes of a row by a deed, None if it can't hold."""
    _need_deed_and_row(program, deed, row)
    return row_behind(program[0], deed, row)


def cause_of(program, deed, row, name, number):
    """Any numbers that the row holds and that come by the deed to the number at the name, None if there are none."""
    _need_deed_and_row(program, deed, row)
    need_name(program, name)
    need_number(number)
    return numbers_ahead(program[0], deed, row, name, number)


def is_cause(program, deed, row, name, number, value):
    """Whether any value are numbers that the row holds and that come by the deed to the number at the name."""
    _need_deed_and_row(program, deed, row)
    need_name(program, name)
    need_number(number)
    return some_numbers(program, value) and leads_to(program[0], deed, row, name, number, value)


def comes_by(program, step, table):
    """What comes of the row of a step's source, None if nothing does."""
    need_program(program)
    need_step(program, step)
    need_table(program, table)
    return row_by_step(program, step, table)


def holding_at(program, table):
    """The numbers of the steps of which something comes."""
    need_program(program)
    need_table(program, table)
    return steps_holding(program, table)


def led_by(program, table):
    """The table of all that comes to each place by a step, at the place 0 of the start, too."""
    need_program(program)
    need_table(program, table)
    return table_led(program, table)


def holds_start(program, table):
    """Whether the table has a row at the place 0 within which the start lies."""
    need_program(program)
    need_table(program, table)
    return holds_start_row(program, table)


def not_kept(program, table):
    """The numbers of the steps of which something comes that does not lie within the target's row."""
    need_program(program)
    need_table(program, table)
    return steps_not_kept(program, table)


def is_kept(program, table):
    need_program(program)
    need_table(program, table)
    return kept_table(program, table)
