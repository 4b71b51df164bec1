"""Two programs with the same names and places, and their least tables."""

from stillranges.errors import Unlike
from stillranges.going import places_unlike
from stillranges.needs import need_program
from stillranges.opening import least_of
from stillranges.rows import within_table


def _need_alike(program, other):
    need_program(program)
    need_program(other)
    if other[:2] != program[:2]:
        raise Unlike(other)


def _unlike_places(program, other):
    return places_unlike(least_of(program), least_of(other))


def same_table(program, other):
    """Whether the least tables of two programs are equal."""
    _need_alike(program, other)
    return not _unlike_places(program, other)


def first_unlike_place(program, other):
    """The least place at which the least tables are not equal, None if there is none."""
    _need_alike(program, other)
    unlike = _unlike_places(program, other)
    return unlike[0] if unlike else None


def is_wider(program, other):
    """Whether the least table of the other program lies within that of the program."""
    _need_alike(program, other)
    return within_table(least_of(other), least_of(program))
