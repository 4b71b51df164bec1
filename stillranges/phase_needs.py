"""What refuses an argument that is not of the kind it has to be in a phase."""

from stillranges.circling import ring_not_above
from stillranges.errors import InvalidBound, InvalidPlan, InvalidTable, Stuck
from stillranges.needs import need_bound, need_open, need_program
from stillranges.options import a_plan, an_option, some_values
from stillranges.plain import places_come_to


def need_phase(program, opened):
    need_program(program)
    need_open(program, opened)


def need_bound_come_to(program, opened, bound):
    need_bound(program, bound)
    if bound[0] not in places_come_to(program, opened):
        raise InvalidBound(bound)


def need_option(program, opened, bound, option):
    if not an_option(program, opened, bound, option):
        raise InvalidPlan(option)


def need_values(program, opened, values):
    if not some_values(program, opened, values):
        raise InvalidTable(values)


def need_plan(program, opened, plan):
    if not a_plan(program, opened, plan):
        raise InvalidPlan(plan)


def need_phase_and_plan(program, opened, plan):
    need_phase(program, opened)
    need_plan(program, opened, plan)


def need_sound(program, opened, plan):
    need_plan(program, opened, plan)
    if ring_not_above(program, opened, plan) is not None:
        raise Stuck(plan)
