"""Blame and cures: which steps alone break a claim, and without which steps it is shown."""

from stillranges.choosing import all_least_doing, all_steps, is_least_doing, least_with_only, lessened
from stillranges.choosing import program_with_only, without
from stillranges.claims import need_claim, shown_in
from stillranges.errors import TooMany
from stillranges.needs import need_program, need_steps
from stillranges.plain import some_steps

MOST_STEPS = 8


def _breaks(claim, chosen):
    """Whether a claim is not shown for the program with some steps alone."""
    program, bound, number = claim
    return not shown_in(program, least_with_only(program, chosen), bound, number)


def _heals(claim, left_out):
    """Whether a claim is shown for the program without some steps."""
    return not _breaks(claim, without(all_steps(claim[0]), left_out))


def _all_least(does, claim):
    """All least lists of steps that do, none if not even all steps do."""
    steps = all_steps(claim[0])
    if len(steps) > MOST_STEPS:
        raise TooMany(len(steps))
    return all_least_doing(does, claim, steps)


def _any_least(does, claim):
    """A least list of steps that does, None if not even all steps do."""
    steps = all_steps(claim[0])
    return lessened(does, claim, steps) if does(claim, steps) else None


def with_only(program, chosen):
    """The program with some of its steps."""
    need_program(program)
    need_steps(program, chosen)
    return program_with_only(program, chosen)


def blame_for(program, bound, number):
    """Any list of steps that break a claim, each of them needed for it, None if the claim is shown."""
    need_claim(program, bound, number)
    return _any_least(_breaks, (program, bound, number))


def is_blame(program, bound, number, value):
    need_claim(program, bound, number)
    return some_steps(program, value) and is_least_doing(_breaks, (program, bound, number), value)


def cure_for(program, bound, number):
    """Any list of steps without which a claim is shown, each of them in its way, None if it isn't without any steps."""
    need_claim(program, bound, number)
    return _any_least(_heals, (program, bound, number))


def is_cure(program, bound, number, value):
    need_claim(program, bound, number)
    return some_steps(program, value) and is_least_doing(_heals, (program, bound, number), value)


def all_blames(program, bound, number):
    need_claim(program, bound, number)
    return _all_least(_breaks, (program, bound, number))


def all_cures(program, bound, number):
    need_claim(program, bound, number)
    return _all_least(_heals, (program, bound, number))
