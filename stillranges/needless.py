"""Steps without which the least table is as it was, and the least lists of steps that keep it."""

from stillranges.choosing import all_least_doing, all_steps, is_least_doing, least_with_only, lessened
from stillranges.choosing import program_with_only, without
from stillranges.needs import need_program, need_steps
from stillranges.opening import least_of
from stillranges.plain import some_steps


def _keeps(told, chosen):
    """Whether the program with some steps alone has a table as its least one."""
    program, least = told
    return least_with_only(program, chosen) == least


def _with_least(program):
    return (program, least_of(program))


def without_steps(program, steps):
    """The program without some steps."""
    need_program(program)
    need_steps(program, steps)
    return program_with_only(program, without(all_steps(program), steps))


def is_needless(program, steps):
    """Whether the least table without some steps, all together, is as it was."""
    need_program(program)
    need_steps(program, steps)
    return _keeps(_with_least(program), without(all_steps(program), steps))


def needless_steps(program):
    """The steps without each of which alone the least table is as it was."""
    need_program(program)
    told = _with_least(program)
    steps = all_steps(program)
    return [step for step in steps if _keeps(told, without(steps, [step]))]


def kept_lot(program):
    """The steps that are left if each, from 0 on, is left out where it is needless in what is left."""
    need_program(program)
    return lessened(_keeps, _with_least(program), all_steps(program))


def is_kept_lot(program, value):
    """Whether any value is a list of steps with the same least table, none of which is needless then."""
    need_program(program)
    return some_steps(program, value) and is_least_doing(_keeps, _with_least(program), value)


def all_kept_lots(program):
    """All kept lots, in order."""
    need_program(program)
    return all_least_doing(_keeps, _with_least(program), all_steps(program))
