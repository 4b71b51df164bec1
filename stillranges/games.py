"""The game of two over a phase, whose worths are the least kept values, and the best plans and replies in it."""

from stillranges.errors import InvalidPlan, InvalidTable, TooMany
from stillranges.needs import need_count
from stillranges.options import bounds_come_to, system_of, values_kept
from stillranges.phase_needs import need_bound_come_to, need_phase, need_phase_and_plan, need_plan, need_values
from stillranges.playing import ENDLESS, NOTHING, a_reply, is_plan_sure_of, is_reply_leaving, least_kept, most_left_by
from stillranges.playing import plan_without_gains, play_of, reply_by, sure_by, sure_within, turns_until

MOST_TURNS = 2000


def _need_reply(program, opened, reply):
    if not a_reply(program, opened, reply):
        raise InvalidPlan(reply)


def is_reply(program, opened, value):
    """Whether any value is a reply: a side named of each option of each bound."""
    need_phase(program, opened)
    return a_reply(program, opened, value)


def play(program, opened, bound, plan, reply):
    """The bounds played from, the number of the one that the play comes back to, and what it pays."""
    need_phase(program, opened)
    need_bound_come_to(program, opened, bound)
    need_plan(program, opened, plan)
    _need_reply(program, opened, reply)
    return play_of(program, opened, bound, plan, reply)


def sure_of(program, opened, plan):
    """The least that is paid from each bound if Wider names the options of a plan."""
    need_phase_and_plan(program, opened, plan)
    return sure_by(program, opened, plan)


def at_most_of(program, opened, reply):
    """The greatest that is paid from each bound if Narrower names the sides of a reply."""
    need_phase(program, opened)
    _need_reply(program, opened, reply)
    return most_left_by(program, opened, reply)


def worths(program, opened):
    """The greatest that some plan is sure of, for each bound."""
    need_phase(program, opened)
    return least_kept(program, opened)


def best_plan(program, opened):
    """A plan that is sure of the worths."""
    need_phase(program, opened)
    return plan_without_gains(program, opened)


def best_reply(program, opened):
    """A reply that leaves no more than the worths."""
    need_phase(program, opened)
    return reply_by(program, opened, least_kept(program, opened))


def is_best_plan(program, opened, value):
    need_phase(program, opened)
    return is_plan_sure_of(program, opened, value, least_kept(program, opened))


def is_best_reply(program, opened, value):
    need_phase(program, opened)
    return is_reply_leaving(program, opened, value, least_kept(program, opened))


def reply_of(program, opened, values):
    """The reply that names of each option the first side that is worth at most the value of its bound."""
    need_phase(program, opened)
    need_values(program, opened, values)
    if not values_kept(program, opened, values):
        raise InvalidTable(values)
    return reply_by(program, opened, values)


def _told(paid):
    """What is paid as it is told: a number, None or "nothing"."""
    if paid == NOTHING:
        return "nothing"
    return None if paid == ENDLESS else paid[1]


def worths_within(program, opened, turns):
    """What Wider can be sure of from each bound if each play is over behind so many turns."""
    need_phase(program, opened)
    need_count(turns)
    sure = sure_within(system_of(program, opened), turns)
    return [_told(sure[bound]) for bound in bounds_come_to(program, opened)]


def turns_for(program, opened, bound):
    """The least number of turns with which the worth of a bound is sure, None if there is none."""
    need_phase(program, opened)
    need_bound_come_to(program, opened, bound)
    system = system_of(program, opened)
    worth = dict(zip(system, least_kept(program, opened)))[bound]
    if worth is None:
        # With each turn that tells more an end is endless at some bound more.
        return turns_until(system, bound, ENDLESS, len(system))
    turns = turns_until(system, bound, (1, worth), MOST_TURNS)
    if turns is None:
        raise TooMany(MOST_TURNS + 1)
    return turns
