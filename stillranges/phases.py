"""Options and sides: a phase of open steps as a greatest of some leasts for each bound."""

from stillranges.errors import InvalidTable
from stillranges.needs import need_table
from stillranges.options import a_plan, bounds_come_to, options_at, reaches_in, sides_at, some_values, table_with
from stillranges.options import values_kept, worth_at, worths_of
from stillranges.phase_needs import need_bound_come_to, need_option, need_phase, need_values
from stillranges.plain import places_come_to


def phase_bounds(program, opened):
    """The bounds come to, in order."""
    need_phase(program, opened)
    return bounds_come_to(program, opened)


def options_of(program, opened, bound):
    """The options of a bound, in order."""
    need_phase(program, opened)
    need_bound_come_to(program, opened, bound)
    return options_at(program, opened, bound)


def sides_of(program, opened, bound, option):
    """The sides of an option of a bound."""
    need_phase(program, opened)
    need_bound_come_to(program, opened, bound)
    need_option(program, opened, bound, option)
    return sides_at(program, bound, option)


def option_worth(program, opened, bound, option, values):
    """The least worth of the sides of an option."""
    need_phase(program, opened)
    need_bound_come_to(program, opened, bound)
    need_option(program, opened, bound, option)
    need_values(program, opened, values)
    return worth_at(program, bound, option, worths_of(program, opened, values))


def are_values(program, opened, value):
    need_phase(program, opened)
    return some_values(program, opened, value)


def are_kept_values(program, opened, value):
    """Whether any value are values by which no option is worth more than the value of its bound."""
    need_phase(program, opened)
    return some_values(program, opened, value) and values_kept(program, opened, value)


def is_plan(program, opened, value):
    need_phase(program, opened)
    return a_plan(program, opened, value)


def values_of_table(program, opened, table):
    """The values that a table has at the bounds come to."""
    need_phase(program, opened)
    need_table(program, table)
    places = places_come_to(program, opened)
    if None in [table[place] for place in places]:
        raise InvalidTable(table)
    return reaches_in(program, opened, table)


def table_of_values(program, opened, values):
    """The table with some values at the places come to, None instead of it if a low end were above its high one."""
    need_phase(program, opened)
    need_values(program, opened, values)
    return table_with(program, opened, worths_of(program, opened, values))
