"""Values of sound plans, and plans turned until nothing gains.

A system is a dict: for each bound the dict of its options, each with the list of its sides (options.system_of). Plans
and values are here dicts of bounds. All of them are trusted to be what they should, and the plans to be sound.
"""

from stillranges.options import bounds_at, worth_of
from stillranges.plain import come_by


def _leading(system, plan):
    """For each bound the list of the tuples of a bound whose option has it as a side, and of the addend."""
    leading = {bound: [] for bound in system}
    for bound, option in plan.items():
        for behind, addend in system[bound][option]:
            if behind is not None:
                leading[behind].append((bound, addend))
    return leading


def _told(sides):
    """The number of the told one of some sides, None if there is none."""
    return min([reach for behind, reach in sides if behind is None and reach is not None], default=None)


def values_by(system, plan):
    """The values of a sound plan: the least sums of roads, found from the told numbers back."""
    leading = _leading(system, plan)
    values = {bound: _told(system[bound][option]) for bound, option in plan.items()}
    waiting = [bound for bound in plan if values[bound] is not None]
    while waiting:
        lower = {}
        for behind in waiting:
            for bound, addend in leading[behind]:
                reach = values[behind] + addend
                if values[bound] is None or reach < values[bound]:
                    values[bound] = reach
                    lower[bound] = True
        waiting = list(lower)
    return values


def is_more(worth, value):
    return value is not None and (worth is None or worth > value)


def gaining(system, values):
    """The list of the tuples of a bound and an option of it that is worth more than its value."""
    found = []
    for bound, options in system.items():
        for option, sides in options.items():
            if is_more(worth_of(sides, values), values[bound]):
                found.append((bound, option))
    return found


def _best_turns(system, values):
    """The dict of the bounds with some option that is worth more than the value, with the one worth most."""
    turns = {}
    for bound, options in system.items():
        most = values[bound]
        for option, sides in options.items():
            worth = worth_of(sides, values)
            if is_more(worth, most):
                most = worth
                turns[bound] = option
    return turns


def plans_from(system, plan):
    """The list of the tuples of a plan and its values, from a sound plan on to one without gains."""
    values = values_by(system, plan)
    plans = [(plan, values)]
    turns = _best_turns(system, values)
    while turns:
        plan = {bound: turns.get(bound, option) for bound, option in plan.items()}
        values = values_by(system, plan)
        plans.append((plan, values))
        turns = _best_turns(system, values)
    return plans


def carried_on(program, opened, plan):
    """A plan with some options, and with those of one step alone at each place come to that it has none for.

    Each of these steps leads from a place that is come to ahead, so no ring goes through the places they lead to.
    """
    whole = {bound: option for bound, option in plan.items()}
    for bound in bounds_at(program, 0):
        whole.setdefault(bound, (None, 0))
    places = sorted(set([place for place, _, _ in whole]))
    for place, step in come_by(program, opened, places).items():
        if step is not None:
            for bound in bounds_at(program, place):
                whole[bound] = (step, 0)
    return whole
