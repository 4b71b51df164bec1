"""The game of two over a phase: who goes for the wider, and who for the narrower. All handed in is trusted.

What is paid within some turns stands here as a tuple: NOTHING, (1, number) or ENDLESS, so it is in order.
"""

from stillranges.circling import led_to_rings_not_above
from stillranges.options import a_plan, bounds_come_to, system_of, worth_of
from stillranges.plain import a_number_below
from stillranges.solving import carried_on, is_more, plans_from, values_by

NOTHING = (0, 0)
ENDLESS = (2, 0)


def _names_sides(options, told):
    """Whether any value is a list of the number of a side of each option."""
    if not isinstance(told, list) or len(told) != len(options):
        return False
    return all([a_number_below(len(sides), at) for sides, at in zip(list(options.values()), told)])


def a_reply(program, opened, value):
    system = system_of(program, opened)
    if not isinstance(value, list) or len(value) != len(system):
        return False
    return all([_names_sides(options, told) for options, told in zip(list(system.values()), value)])


def _replied(system, reply):
    """The system in which each option has the side alone that a reply names."""
    replied = {}
    for bound, told in zip(system, reply):
        replied[bound] = {option: [sides[at]] for (option, sides), at in zip(list(system[bound].items()), told)}
    return replied


def play_of(program, opened, bound, plan, reply):
    """The bounds played from, the number of the one come back to, and what is paid."""
    replied = _replied(system_of(program, opened), reply)
    options = dict(zip(replied, plan))
    bounds = []
    paid = []
    while bound not in bounds:
        bounds.append(bound)
        bound, addend = replied[bound][options[bound]][0]
        if bound is None:
            return (bounds, None, None if addend is None else sum(paid) + addend)
        paid.append(addend)
    back = bounds.index(bound)
    return (bounds, back, None if sum(paid[back:]) > 0 else "nothing")


def sure_by(program, opened, plan):
    """What a plan is sure of: nothing where it can be led round for at most 0, otherwise the least sum of a road."""
    led = led_to_rings_not_above(program, opened, plan)
    bounds = bounds_come_to(program, opened)
    clear = {bound: option for bound, option in zip(bounds, plan) if bound not in led}
    values = values_by(system_of(program, opened), clear)
    return ["nothing" if bound in led else values[bound] for bound in bounds]


def _least_values(program, opened, system):
    values = plans_from(system, carried_on(program, opened, {}))[-1][1]
    return [values[bound] for bound in system]


def most_left_by(program, opened, reply):
    """The greatest that is paid against a reply: the least values that are kept where it has named the sides."""
    return _least_values(program, opened, _replied(system_of(program, opened), reply))


def least_kept(program, opened):
    return _least_values(program, opened, system_of(program, opened))


def plan_without_gains(program, opened):
    plan = plans_from(system_of(program, opened), carried_on(program, opened, {}))[-1][0]
    return [plan[bound] for bound in bounds_come_to(program, opened)]


def _first_kept(sides, values, value):
    """The number of the first side that is worth at most a value."""
    return [is_more(worth_of([side], values), value) for side in sides].index(False)


def reply_by(program, opened, values):
    """The reply of kept values."""
    system = system_of(program, opened)
    told = dict(zip(system, values))
    return [[_first_kept(sides, told, told[bound]) for sides in system[bound].values()] for bound in system]


def is_plan_sure_of(program, opened, value, paid):
    return a_plan(program, opened, value) and sure_by(program, opened, value) == paid


def is_reply_leaving(program, opened, value, paid):
    return a_reply(program, opened, value) and most_left_by(program, opened, value) == paid


def _paid_by(side, ahead):
    behind, addend = side
    if behind is None:
        return ENDLESS if addend is None else (1, addend)
    kind, number = ahead[behind]
    return (1, number + addend) if kind == 1 else (kind, 0)


def _one_turn(system, ahead):
    """What is sure with one turn more."""
    sure = {}
    for bound, options in system.items():
        sure[bound] = max([min([_paid_by(side, ahead) for side in sides]) for sides in options.values()])
    return sure


def sure_within(system, turns):
    """The dict of what is sure with so many turns."""
    ahead = None
    sure = {bound: NOTHING for bound in system}
    while turns > 0 and sure != ahead:
        ahead = sure
        sure = _one_turn(system, ahead)
        turns = turns - 1
    return sure


def turns_until(system, bound, paid, most):
    """The least number of turns, at most some, with which a bound is sure of what is paid, None if there is none."""
    sure = {at: NOTHING for at in system}
    turns = 0
    while sure[bound] != paid:
        if turns == most:
            return None
        sure = _one_turn(system, sure)
        turns += 1
    return turns
