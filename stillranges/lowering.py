"""Tables whose bounds can be lowered. Programs and tables are trusted to be some.

A level table has the rows and the steps that can hold of the least one. So it is looked at in one phase, and what is
lowered from it is kept exactly if its values are: it cannot come beneath the least table, where the same steps hold.
"""

from stillranges.opening import least_of
from stillranges.options import reaches_in, system_of, table_with, worth_of, worths_of
from stillranges.plain import a_bound, a_whole, ascending
from stillranges.rows import end_of, kept_table, steps_holding
from stillranges.solving import carried_on, plans_from

START = (None, 0)
FLOOR = (None, 1)


def is_level_table(program, table):
    least = least_of(program)
    if not kept_table(program, table) or [row is None for row in table] != [row is None for row in least]:
        return False
    return steps_holding(program, table) == steps_holding(program, least)


def _phase_at(program, table):
    """The open steps of a level table, their system, and the dict of its values."""
    opened = steps_holding(program, table)
    return opened, system_of(program, opened), worths_of(program, opened, reaches_in(program, opened, table))


def _end_at(program, table, bound):
    """A bound's value, None also where there is no row."""
    return None if table[bound[0]] is None else end_of(program, table, bound)


def some_lot(program, table, value):
    """Whether any value is an ascending list, not empty, of bounds whose values are numbers."""
    if not isinstance(value, list) or not value or not all([a_bound(program, bound) for bound in value]):
        return False
    return ascending(value) and None not in [_end_at(program, table, bound) for bound in value]


def _span_lowered(span, place, name, lot):
    """A range of a name with the ends of a lot lowered, None if its low end comes above the high one."""
    low, high = span
    low = low + 1 if (place, name, "low") in lot else low
    high = high - 1 if (place, name, "high") in lot else high
    return None if low is not None and high is not None and low > high else (low, high)


def lowered_table(program, table, lot):
    """The kept table lowered by a lot, None if it can't be."""
    lowered = []
    for place, row in enumerate(table):
        if row is not None:
            row = [_span_lowered(span, place, name, lot) for span, name in zip(row, program[0])]
            if None in row:
                return None
        lowered.append(row)
    return lowered if kept_table(program, lowered) else None


def _comes_down(sides, values, value, held):
    """Whether an option is worth less than a value as soon as some bounds are lowered."""
    if worth_of(sides, values) < value:
        return True
    return any([behind in held and values[behind] + addend == value for behind, addend in sides])


def _coming_down(system, values, lot):
    """The list of the bounds of a lot all of whose options come down with it."""
    held = {bound: True for bound in lot}
    found = []
    for bound in lot:
        if all([_comes_down(sides, values, values[bound], held) for sides in system[bound].values()]):
            found.append(bound)
    return found


def greatest_lot_of(program, table):
    """All bounds of any lot that can be lowered: those that are held up are left out again and again."""
    _, system, values = _phase_at(program, table)
    lot = [bound for bound in system if values[bound] is not None]
    less = _coming_down(system, values, lot)
    while less != lot:
        lot = less
        less = _coming_down(system, values, lot)
    return lot


def _lowest_values(program, opened, system, values):
    """The least kept values with the same endless ones: these are held up as if they were told."""
    told = {bound: options for bound, options in system.items()}
    plan = carried_on(program, opened, {})
    for bound in system:
        if values[bound] is None:
            told[bound] = {START: [(None, None)]}
            plan[bound] = START
    return plans_from(told, plan)[-1][1]


def lowest_table(program, table):
    opened, system, values = _phase_at(program, table)
    return table_with(program, opened, _lowest_values(program, opened, system, values))


def most_lowered(program, table):
    """The greatest difference between a value of a level table that is a number and that of the lowest one."""
    opened, system, values = _phase_at(program, table)
    lowest = _lowest_values(program, opened, system, values)
    return max([value - lowest[bound] for bound, value in values.items() if value is not None], default=0)


def _has_number(side, values):
    """Whether a side is worth a number, however far endless bounds are lowered."""
    behind, addend = side
    return addend is not None if behind is None else values[behind] is not None


def _hanging(options, values):
    """The options of an endless bound that are not worth a number by some side."""
    hanging = {}
    for option, sides in options.items():
        if not any([_has_number(side, values) for side in sides]):
            hanging[option] = sides
    return hanging


def _a_fall_tuple(program, table, value):
    if not isinstance(value, tuple) or len(value) != 2 or not a_bound(program, value[0]) or not a_whole(value[1]):
        return False
    return table[value[0][0]] is not None and end_of(program, table, value[0]) is None


def _holds_down(sides, numbers, number):
    """Whether a side is a bound of a fall by which the option is worth no more than a number."""
    return any([behind in numbers and numbers[behind] + addend <= number for behind, addend in sides])


def a_fall(program, table, value):
    """Whether any value is a fall of a level table.

    Behind some count all other numbers are less, so an option holds by a side with a number, or by one of the fall.
    """
    if not isinstance(value, list) or not value or not all([_a_fall_tuple(program, table, told) for told in value]):
        return False
    if not ascending([bound for bound, _ in value]):
        return False
    _, system, values = _phase_at(program, table)
    numbers = dict(value)
    for bound, number in value:
        if not all([_holds_down(sides, numbers, number) for sides in _hanging(system[bound], values).values()]):
            return False
    return True


def greatest_fall_of(program, table):
    """All bounds of any fall with the least counts: the least values, told 0, that their hanging options keep."""
    _, system, values = _phase_at(program, table)
    hanging = {}
    for bound, options in system.items():
        if values[bound] is None:
            hanging[bound] = _hanging(options, values)
            hanging[bound][FLOOR] = [(None, 0)]
    counts = plans_from(hanging, {bound: FLOOR for bound in hanging})[-1][1]
    return [(bound, count) for bound, count in counts.items() if count is not None]
