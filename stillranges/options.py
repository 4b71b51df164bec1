"""Bounds come to, options, sides, values and plans of a phase. Programs and open steps are trusted to be some.

A reach is an end at a high bound and its opposite at a low one, None where it is endless: so a reach is always
wider if it is greater, and one rule does for both sides.
"""

from stillranges.deeds import written_name
from stillranges.plain import PAIR_TESTS, SIDES, a_whole, an_end, places_come_to
from stillranges.spans import end_plus

# The side at which a deed takes the wider one of two names: there it has an option for each.
PICKED_SIDES = {"greatest": "high", "least": "low"}


def bounds_at(program, place):
    return [(place, name, side) for name in program[0] for side in SIDES]


def bounds_come_to(program, opened):
    return [bound for place in places_come_to(program, opened) for bound in bounds_at(program, place)]


def reach_of(span, side):
    low, high = span
    if side == "high":
        return high
    return None if low is None else -low


def _toward(side, number):
    """What a number adds to reaches of a side: itself at a high one, its opposite at a low one."""
    return number if side == "high" else -number


def _other_side(side):
    return "low" if side == "high" else "high"


def _has_picks(deed, name, side):
    return written_name(deed) == name and PICKED_SIDES.get(deed[0]) == side


def options_at(program, opened, bound):
    place, name, side = bound
    options = [(None, 0)] if place == 0 else []
    for step in opened:
        _, target, deed = program[3][step]
        if target == place:
            options.append((step, 0))
            if _has_picks(deed, name, side):
                options.append((step, 1))
    return options


def _written_sides(source, deed, side, pick):
    word = deed[0]
    if word == "set":
        return [(None, _toward(side, deed[2]))]
    if word == "input":
        return [(None, reach_of(deed[2], side))]
    if word == "add":
        return [((source, deed[2], side), _toward(side, deed[3]))]
    if word == "turn":
        return [((source, deed[2], _other_side(side)), _toward(side, deed[3]))]
    both = [((source, deed[2], side), 0), ((source, deed[3], side), 0)]
    return [both[pick]] if PICKED_SIDES[word] == side else both


def _pair_sides(source, deed, name, side):
    """The sides of what a test between two names cuts."""
    word, first, second, number = deed
    if name == first and (word == "equal" or side == "high"):
        return [((source, second, side), _toward(side, number))]
    if name == second and (word == "equal" or side == "low"):
        return [((source, first, side), -_toward(side, number))]
    return []


def _cutting_sides(source, deed, name, side):
    """The sides of what a deed that does not write a name cuts of it."""
    if deed[0] in PAIR_TESTS:
        return _pair_sides(source, deed, name, side)
    if (deed[0], side) in (("upto", "high"), ("from", "low")) and deed[1] == name:
        return [(None, _toward(side, deed[2]))]
    return []


def sides_at(program, bound, option):
    _, name, side = bound
    step, pick = option
    if step is None:
        return [(None, reach_of(program[2][program[0].index(name)], side))]
    source, _, deed = program[3][step]
    if written_name(deed) == name:
        return _written_sides(source, deed, side, pick)
    return [((source, name, side), 0)] + _cutting_sides(source, deed, name, side)


def system_of(program, opened):
    """The dict of the bounds come to, with the dict of the options of each, in order, with their sides."""
    system = {bound: {} for bound in bounds_come_to(program, opened)}
    for bound in bounds_at(program, 0):
        system[bound][(None, 0)] = sides_at(program, bound, (None, 0))
    for step in opened:
        _, target, deed = program[3][step]
        for bound in bounds_at(program, target):
            system[bound][(step, 0)] = sides_at(program, bound, (step, 0))
            if _has_picks(deed, bound[1], bound[2]):
                system[bound][(step, 1)] = sides_at(program, bound, (step, 1))
    return system


def worth_of(sides, worths):
    """The least worth of some sides by a dict of the values of bounds."""
    worth = [addend if at is None else end_plus(worths[at], addend) for at, addend in sides]
    return min([reach for reach in worth if reach is not None], default=None)


def worth_at(program, bound, option, worths):
    return worth_of(sides_at(program, bound, option), worths)


def some_values(program, opened, value):
    if not isinstance(value, list) or len(value) != len(bounds_come_to(program, opened)):
        return False
    return all([an_end(reach) for reach in value])


def worths_of(program, opened, values):
    """The dict of the bounds come to with their values."""
    return dict(zip(bounds_come_to(program, opened), values))


def reaches_in(program, opened, table):
    """The values that a table with rows at all places come to has."""
    bounds = bounds_come_to(program, opened)
    return [reach_of(table[place][program[0].index(name)], side) for place, name, side in bounds]


def _span_with(worths, place, name):
    """The range of a name with some values, None if its low end were above the high one."""
    high, turned_low = worths[(place, name, "high")], worths[(place, name, "low")]
    low = None if turned_low is None else -turned_low
    return None if low is not None and high is not None and low > high else (low, high)


def table_with(program, opened, worths):
    """The table with some values at the places come to, None instead of it if a low end were above its high one."""
    table = [None] * program[1]
    for place in places_come_to(program, opened):
        table[place] = [_span_with(worths, place, name) for name in program[0]]
        if None in table[place]:
            return None
    return table


def _enough(reach, worth):
    return reach is None or (worth is not None and worth <= reach)


def values_kept(program, opened, values):
    worths = worths_of(program, opened, values)
    for bound, options in system_of(program, opened).items():
        if not all([_enough(worths[bound], worth_of(sides, worths)) for sides in options.values()]):
            return False
    return True


def an_option(program, opened, bound, value):
    if not isinstance(value, tuple) or len(value) != 2 or not an_end(value[0]) or not a_whole(value[1]):
        return False
    return value in options_at(program, opened, bound)


def a_plan(program, opened, value):
    bounds = bounds_come_to(program, opened)
    if not isinstance(value, list) or len(value) != len(bounds):
        return False
    return all([an_option(program, opened, bound, option) for bound, option in zip(bounds, value)])
