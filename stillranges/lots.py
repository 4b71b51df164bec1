"""Lots of bounds that can be lowered together, endless ends that can fall, and why a level table is not the least."""

from stillranges.errors import InvalidBound, Stuck
from stillranges.lowering import a_fall, greatest_fall_of, greatest_lot_of, is_level_table, lowered_table, lowest_table
from stillranges.lowering import most_lowered, some_lot
from stillranges.needs import need_program, need_table
from stillranges.opening import least_of


def _need_level(program, table):
    need_program(program)
    need_table(program, table)
    if not is_level_table(program, table):
        raise Stuck(table)


def _need_lot(program, table, lot):
    need_program(program)
    need_table(program, table)
    if not some_lot(program, table, lot):
        raise InvalidBound(lot)


def is_level(program, table):
    """Whether a table is kept, has rows where the least one has, and the same steps can hold at it."""
    need_program(program)
    need_table(program, table)
    return is_level_table(program, table)


def can_be_lowered(program, table, lot):
    """Whether the table lowered by a lot is a kept one."""
    _need_lot(program, table, lot)
    return lowered_table(program, table, lot) is not None


def lowered_by(program, table, lot):
    """The table lowered by a lot."""
    _need_lot(program, table, lot)
    lowered = lowered_table(program, table, lot)
    if lowered is None:
        raise Stuck(lot)
    return lowered


def greatest_lot(program, table):
    """All bounds that stand in any lot that can be lowered."""
    _need_level(program, table)
    return greatest_lot_of(program, table)


def lowest(program, table):
    """The table to which one comes by lowering the greatest lot again and again."""
    _need_level(program, table)
    return lowest_table(program, table)


def rounds_down(program, table):
    """How many times the greatest lot is lowered until there is none."""
    _need_level(program, table)
    return most_lowered(program, table)


def is_fall(program, table, value):
    """Whether any value are endless bounds with numbers that are kept, however great, if more by one count."""
    _need_level(program, table)
    return a_fall(program, table, value)


def greatest_fall(program, table):
    """All bounds that stand in any fall, with the least counts with which they are one together."""
    _need_level(program, table)
    return greatest_fall_of(program, table)


def why_not_least(program, table):
    """A lot that can be lowered or a fall, None for the least table."""
    _need_level(program, table)
    if table == least_of(program):
        return None
    lot = greatest_lot_of(program, table)
    return ("lot", lot) if lot else ("fall", greatest_fall_of(program, table))
