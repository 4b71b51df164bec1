"""Rings of plans, and whether a plan is sound."""

from stillranges.circling import a_ring, ring_not_above, sum_round
from stillranges.errors import InvalidPaper
from stillranges.phase_needs import need_phase_and_plan


def is_ring(program, opened, plan, value):
    """Whether any value is a ring of a plan."""
    need_phase_and_plan(program, opened, plan)
    return a_ring(program, opened, plan, value)


def ring_sum(program, opened, plan, ring):
    """The sum of the addends round a ring."""
    need_phase_and_plan(program, opened, plan)
    if not a_ring(program, opened, plan, ring):
        raise InvalidPaper(ring)
    return sum_round(program, opened, plan, ring)


def is_sound(program, opened, plan):
    """Whether the sum of each ring is above 0."""
    need_phase_and_plan(program, opened, plan)
    return ring_not_above(program, opened, plan) is None


def loose_ring(program, opened, plan):
    """Any ring whose sum is at most 0, None if there is none."""
    need_phase_and_plan(program, opened, plan)
    return ring_not_above(program, opened, plan)
