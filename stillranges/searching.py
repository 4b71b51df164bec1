"""The greatest number with which a wish holds. Everything handed in is trusted to be what it should.

A number is handed to a function that makes a program of it, together with what else is told; with a greater one no
range of the least table is narrower. Each end of this table is a sum of numbers of the program in which the one that
is sought stands once at most. So where it is greater, without its sign, than all sums of the others and all numbers
of the wish together, more of it changes nothing any more.
"""

from stillranges.opening import least_of
from stillranges.rows import within_table
from stillranges.sizes import limit_of_ends, numbers_in


def is_met(program, wish):
    """Whether a wish holds for a program, which may have more places than the wish."""
    return within_table(least_of(program), wish)


def far_beyond(program, wish):
    """A number that is greater than all on which it could hang whether a wish holds."""
    told = [abs(number) for row in wish if row is not None for span in row for number in numbers_in(span)]
    return 4 * (limit_of_ends(program) + max(told, default=0) + 1)


def greatest_met(wish, made, told, least, far):
    """The greatest number with which a wish holds, from `least` on and below `far`, None if there is none."""
    if not is_met(made(told, least), wish):
        return None
    while far - least > 1:
        middle = (least + far) // 2
        if is_met(made(told, middle), wish):
            least = middle
        else:
            far = middle
    return least
