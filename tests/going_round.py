"""The least table and least values found the plain way, by going round, for the tests to hold others against."""

from stillranges.kept import led_by
from stillranges.phases import option_worth, options_of, phase_bounds
from stillranges.ranges import table_joined


def numbers_told(value):
    """All whole numbers within a value, without their signs."""
    if isinstance(value, (list, tuple)):
        return [number for part in value for number in numbers_told(part)]
    return [abs(value)] if isinstance(value, int) else []


def limit_of(program):
    told = numbers_told(program[2]) + [number for step in program[3] for number in numbers_told(step[2])]
    return max([0] + told) * program[1] * len(program[0]) * 2


def limited(span, limit):
    low, high = span
    return (None if low is None or low < -limit else low, None if high is None or high > limit else high)


def least_by_rounds(program):
    """The least table: whatever passes the limit at last is endless."""
    limit = limit_of(program)
    table = [None] * program[1]
    while True:
        new = table_joined(program, table, led_by(program, table))
        new = [None if row is None else [limited(span, limit) for span in row] for row in new]
        if new == table:
            return table
        table = new


def least_values_by_rounds(program, opened):
    """The least kept values of a phase: "nothing" is less than every number, None more."""
    limit = limit_of(program)
    bounds = phase_bounds(program, opened)
    lowest = -limit - 1
    values = [lowest] * len(bounds)
    while True:
        new = []
        for bound, value in zip(bounds, values):
            worths = [option_worth(program, opened, bound, option, values) for option in options_of(program, opened, bound)]
            most = None if None in worths or value is None else max(worths + [value])
            new.append(None if most is None or most > limit else most)
        if new == values:
            return values
        values = new
