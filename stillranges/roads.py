"""Roads of sound plans: from a bound on to the number on which its value hangs. All handed in is trusted to be some.

A plan is here a dict of the bounds come to, a system that of options.system_of, values a dict of bounds.
"""

from stillranges.plain import a_bound


def _ends_with(sides, value):
    """Whether the told one of some sides is a value."""
    return any([behind is None and reach == value for behind, reach in sides])


def _bounds_as_good(sides, value, values):
    """The list of the bounds of sides that are worth a value."""
    found = []
    for behind, addend in sides:
        if behind is not None and values[behind] is not None and values[behind] + addend == value:
            found.append(behind)
    return found


def least_road(system, plan, values, bound):
    """A road with the least sum, None if the value of the bound is None.

    What adds nothing to the sum beyond the value never comes back: round a ring a sound plan adds more than 0.
    """
    if values[bound] is None:
        return None
    road = [bound]
    while not _ends_with(system[road[-1]][plan[road[-1]]], values[road[-1]]):
        sides = system[road[-1]][plan[road[-1]]]
        road.append(_bounds_as_good(sides, values[road[-1]], values)[0])
    return road


def _some_bounds(program, bound, value):
    """Whether any value is a list of unlike bounds, a told one first."""
    if not isinstance(value, list) or not all([a_bound(program, at) for at in value]):
        return False
    return value[:1] == [bound] and len(set(value)) == len(value)


def a_least_road(program, system, plan, values, bound, value):
    """Whether any value is a road from a bound with the least sum."""
    if values[bound] is None or not _some_bounds(program, bound, value):
        return False
    rest = values[bound]
    for at, behind in zip(value, value[1:]):
        addends = [addend for side, addend in system[at][plan[at]] if side == behind]
        if not addends:
            return False
        # Two sides with one bound are those of a deed that reads it twice, and add the same.
        rest = rest - addends[0]
    return _ends_with(system[value[-1]][plan[value[-1]]], rest)
