"""The least table, and the openings that lead to it."""

from stillranges.errors import InvalidNumber
from stillranges.needs import need_name, need_place, need_program
from stillranges.opening import first_turn, least_of, steps_to_open, turn_behind, turns_by
from stillranges.plain import a_count, a_table, some_open
from stillranges.sizes import greatest_number, limit_of_ends


def least_table(program):
    need_program(program)
    return least_of(program)


def is_least(program, value):
    """Whether any value is the least table."""
    need_program(program)
    return a_table(program, value) and value == least_of(program)


def range_at(program, place, name):
    """The range of a name at a place in the least table, None if nothing comes there."""
    need_program(program)
    need_place(program, place)
    need_name(program, name)
    row = least_of(program)[place]
    return None if row is None else row[program[0].index(name)]


def reached_places(program):
    """The places at which the least table has rows."""
    need_program(program)
    return [place for place, row in enumerate(least_of(program)) if row is not None]


def _told_of(turns):
    """The open steps and the table of each turn but the first one."""
    return [(opened, table) for opened, table, _ in turns[1:]]


def openings(program):
    """The open steps and the next table for each time that all steps are opened that can hold."""
    need_program(program)
    return _told_of(turns_by(program, None))


def openings_by(program, picks):
    """The openings of one step alone each time, by some picks."""
    need_program(program)
    if not isinstance(picks, list) or not all([a_count(pick) for pick in picks]):
        raise InvalidNumber(picks)
    return _told_of(turns_by(program, picks))


def _an_opening(program, value):
    """Whether any value is a tuple of open steps and a table."""
    if not isinstance(value, tuple) or len(value) != 2:
        return False
    return some_open(program, value[0]) and a_table(program, value[1])


def _turn_told(program, turn, told):
    """The turn that an opening tells behind a turn, None if it is not one that comes."""
    opened, table = told
    new = [step for step in opened if step not in turn[0]]
    waiting = steps_to_open(program, turn)
    if not new or sorted(turn[0] + new) != opened or not all([step in waiting for step in new]):
        return None
    behind = turn_behind(program, turn, new)
    return behind if behind[1] == table else None


def is_openings(program, value):
    """Whether any value is a list that comes if some steps that can hold are opened at each turn."""
    need_program(program)
    if not isinstance(value, list) or not all([_an_opening(program, told) for told in value]):
        return False
    turn = first_turn(program)
    for told in value:
        turn = _turn_told(program, turn, told)
        if turn is None:
            return False
    return not steps_to_open(program, turn)


def greatest_told(program):
    """The greatest whole number, each without its sign, in the deeds and the ranges of a program."""
    need_program(program)
    return greatest_number(program)


def end_limit(program):
    """What no end of the tables of openings passes."""
    need_program(program)
    return limit_of_ends(program)
