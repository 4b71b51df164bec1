"""Claims: that a name never passes a number on a side, and that ranges show it."""

from stillranges.needs import need_bound, need_number, need_program
from stillranges.rows import end_of


def need_claim(program, bound, number):
    need_program(program)
    need_bound(program, bound)
    need_number(number)


def shown_in(program, table, bound, number):
    """Whether in a table nothing comes to the bound's place, or its value is a number and no wider."""
    if table[bound[0]] is None:
        return True
    end = end_of(program, table, bound)
    if end is None:
        return False
    return end <= number if bound[2] == "high" else end >= number
