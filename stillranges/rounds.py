"""Going round the plain way: what so many rounds come to, and whether they come to rest."""

from stillranges.errors import TooMany
from stillranges.going import bounds_told_endless, comes_to_rest, rounds_gone
from stillranges.needs import need_count, need_program
from stillranges.opening import least_of

MOST_ROUNDS = 2000


def table_behind(program, many):
    """The table behind so many rounds."""
    need_program(program)
    need_count(many)
    return rounds_gone(program, many)[0] if many > 0 else [None] * program[1]


def told_endless(program):
    """The bounds of the least table that are endless by numbers that are told, and not by climbing."""
    need_program(program)
    return sorted(bounds_told_endless(program, least_of(program)))


def rests(program):
    """Whether some number of rounds leads to the least table."""
    need_program(program)
    return comes_to_rest(program, least_of(program))


def rounds_to_rest(program):
    """The least number of rounds that leads to the least table, None if there is none."""
    need_program(program)
    if not comes_to_rest(program, least_of(program)):
        return None
    _, rounds = rounds_gone(program, MOST_ROUNDS + 1)
    if rounds > MOST_ROUNDS:
        raise TooMany(rounds)
    return rounds
