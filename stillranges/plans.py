"""Sound plans, what they gain, and rows of plans that end in the least kept values."""

from stillranges.circling import ring_not_above
from stillranges.errors import InvalidOpen, InvalidPlan
from stillranges.needs import need_count, need_open, need_program
from stillranges.options import a_plan, an_option, bounds_come_to, system_of
from stillranges.phase_needs import need_bound_come_to, need_phase, need_sound
from stillranges.plain import a_bound
from stillranges.roads import a_least_road, least_road
from stillranges.solving import carried_on, gaining, plans_from, values_by
from stillranges.spans import end_plus


def _need_phase_and_sound(program, opened, plan):
    need_phase(program, opened)
    need_sound(program, opened, plan)


def _of_bounds(program, opened, plan):
    """A plan as a dict of the bounds come to."""
    return dict(zip(bounds_come_to(program, opened), plan))


def _in_order(program, opened, told):
    """The list of what a dict tells of the bounds come to."""
    return [told[bound] for bound in bounds_come_to(program, opened)]


def _gains_of(program, opened, plan):
    system = system_of(program, opened)
    return gaining(system, values_by(system, _of_bounds(program, opened, plan)))


def values_of(program, opened, plan):
    """The values by which the option of the plan of each bound is worth its value."""
    _need_phase_and_sound(program, opened, plan)
    values = values_by(system_of(program, opened), _of_bounds(program, opened, plan))
    return _in_order(program, opened, values)


def road_of(program, opened, bound, plan):
    """Any road from a bound with the least sum, None if there is no road."""
    need_phase(program, opened)
    need_bound_come_to(program, opened, bound)
    need_sound(program, opened, plan)
    system, told = system_of(program, opened), _of_bounds(program, opened, plan)
    return least_road(system, told, values_by(system, told), bound)


def is_road(program, opened, bound, plan, value):
    """Whether any value is a road from a bound with the least sum."""
    need_phase(program, opened)
    need_bound_come_to(program, opened, bound)
    need_sound(program, opened, plan)
    system, told = system_of(program, opened), _of_bounds(program, opened, plan)
    return a_least_road(program, system, told, values_by(system, told), bound, value)


def gains(program, opened, plan):
    """The bounds and options that are worth more, by the values of a plan, than the bounds' values."""
    _need_phase_and_sound(program, opened, plan)
    return _gains_of(program, opened, plan)


def _a_gain(program, opened, found, value):
    """Whether any value is among the gains found."""
    if not isinstance(value, tuple) or len(value) != 2 or not a_bound(program, value[0]):
        return False
    return an_option(program, opened, value[0], value[1]) and value in found


def _some_turns(program, opened, plan, turns):
    if not isinstance(turns, list) or not turns:
        return False
    found = _gains_of(program, opened, plan)
    if not all([_a_gain(program, opened, found, turn) for turn in turns]):
        return False
    return len(set([bound for bound, _ in turns])) == len(turns)


def turned(program, opened, plan, turns):
    """The plan with the options of some gains in the place of its own."""
    _need_phase_and_sound(program, opened, plan)
    if not _some_turns(program, opened, plan, turns):
        raise InvalidPlan(turns)
    changed = dict(turns)
    told = _of_bounds(program, opened, plan)
    return [changed.get(bound, option) for bound, option in told.items()]


def first_plan(program, opened):
    """A sound plan: one without a ring."""
    need_phase(program, opened)
    return _in_order(program, opened, carried_on(program, opened, {}))


def row_of_plans(program, opened, plan):
    """A row of plans that begins with a plan."""
    _need_phase_and_sound(program, opened, plan)
    row = plans_from(system_of(program, opened), _of_bounds(program, opened, plan))
    return [_in_order(program, opened, told) for told, _ in row]


def _turns_between(program, opened, plan, behind):
    """The bounds at which a plan differs from the one behind it, with the options there."""
    bounds = bounds_come_to(program, opened)
    return [(bound, new) for bound, old, new in zip(bounds, plan, behind) if old != new]


def _a_row(program, opened, plans):
    """Whether some plans, the first one sound, are each the one ahead turned by gains, and the last one has none."""
    for plan, behind in zip(plans, plans[1:]):
        if not _some_turns(program, opened, plan, _turns_between(program, opened, plan, behind)):
            return False
    return not _gains_of(program, opened, plans[-1])


def is_row_of_plans(program, opened, value):
    need_phase(program, opened)
    if not isinstance(value, list) or not value or not all([a_plan(program, opened, plan) for plan in value]):
        return False
    return ring_not_above(program, opened, value[0]) is None and _a_row(program, opened, value)


def rest_of(program, opened):
    """The least kept values."""
    need_phase(program, opened)
    _, values = plans_from(system_of(program, opened), carried_on(program, opened, {}))[-1]
    return _in_order(program, opened, values)


def carried(program, opened, more, plan):
    """A sound plan for more open steps that has the options of a plan for fewer."""
    need_phase(program, opened)
    need_open(program, more)
    if not all([step in more for step in opened]):
        raise InvalidOpen(more)
    need_sound(program, opened, plan)
    return _in_order(program, more, carried_on(program, more, _of_bounds(program, opened, plan)))


def _span_widened(span, number):
    return (end_plus(span[0], -number), end_plus(span[1], number))


def _deed_widened(deed, number):
    word = deed[0]
    if word == "set":
        return ("input", deed[1], (deed[2] - number, deed[2] + number))
    if word == "input":
        return (word, deed[1], _span_widened(deed[2], number))
    if word == "upto":
        return (word, deed[1], deed[2] + number)
    if word == "from":
        return (word, deed[1], deed[2] - number)
    return deed


def widened(program, number):
    """The program in which each told end is wider by a count."""
    need_program(program)
    need_count(number)
    names, many, start, steps = program
    wider = [(source, target, _deed_widened(deed, number)) for source, target, deed in steps]
    return (list(names), many, [_span_widened(span, number) for span in start], wider)
