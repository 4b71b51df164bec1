"""Checks of sums: where they stand, which are idle, and how few are enough; dead steps, idle tests, and lists."""

from stillranges.checking import program_checked, program_trimmed, steps_dead, tests_idle
from stillranges.errors import InvalidWish
from stillranges.needs import need_program, need_steps
from stillranges.opening import least_of
from stillranges.plain import a_count, a_name_of, a_place
from stillranges.run_needs import need_program_and_width
from stillranges.sums import has_sum, starts_fitting, steps_wanting


def _all_steps(program):
    return list(range(len(program[3])))


def _wanting_beside(program, width, steps):
    """The steps whose sums do not fit at the least table of the program in which some steps have checks."""
    return steps_wanting(program, least_of(program_checked(program, width, steps)), width)


def _cut_steps(program, width):
    """The steps whose checks are not idle if all are there.

    A test of a check cuts something exactly if some sum at the row of the step's source does not fit.
    """
    return _wanting_beside(program, width, _all_steps(program))


def checked_at(program, width, steps):
    """The program in which some steps stop whoever comes to a sum that does not fit."""
    need_program_and_width(program, width)
    need_steps(program, steps)
    return program_checked(program, width, steps)


def checked(program, width):
    """The program in which all steps stop whoever comes to a sum that does not fit."""
    need_program_and_width(program, width)
    return program_checked(program, width, _all_steps(program))


def idle_checks(program, width):
    """The steps with a sum whose checks cut nothing in the least table of the program with all checks."""
    need_program_and_width(program, width)
    cut = _cut_steps(program, width)
    return [number for number, step in enumerate(program[3]) if has_sum(step[2]) and number not in cut]


def is_enough(program, width, steps):
    """Whether the start fits, and with checks at some steps none of the others wants one."""
    need_program_and_width(program, width)
    need_steps(program, steps)
    if not starts_fitting(program, width):
        return False
    return all([step in steps for step in _wanting_beside(program, width, steps)])


def least_enough(program, width):
    """The shortest list of steps that is enough, None if the start does not fit."""
    need_program_and_width(program, width)
    if not starts_fitting(program, width):
        return None
    return _cut_steps(program, width)


def dead_steps(program):
    """The steps whose source has no row in the least table, or that can't hold there."""
    need_program(program)
    return steps_dead(program, least_of(program))


def idle_tests(program):
    """The tests whose source has a row in the least table all of whose numbers pass."""
    need_program(program)
    return tests_idle(program, least_of(program))


def trimmed(program):
    """The program without its dead steps, and with its idle tests gone."""
    need_program(program)
    return program_trimmed(program, least_of(program))


def _a_use(program, value):
    if not isinstance(value, tuple) or len(value) != 3:
        return False
    return a_place(program, value[0]) and a_name_of(program, value[1]) and a_count(value[2])


def _picks_amiss(program, table, use):
    """Whether a row has a number below 0 or not below the length."""
    place, name, length = use
    if table[place] is None:
        return False
    low, high = table[place][program[0].index(name)]
    return low is None or low < 0 or high is None or high >= length


def outside(program, uses):
    """The numbers of the uses at which a number may pick no item."""
    need_program(program)
    if not isinstance(uses, list) or not all([_a_use(program, use) for use in uses]):
        raise InvalidWish(uses)
    least = least_of(program)
    return [number for number, use in enumerate(uses) if _picks_amiss(program, least, use)]
