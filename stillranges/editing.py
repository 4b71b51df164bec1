"""Edits of a program and of wishes for it. Programs and wishes are trusted to be some."""

from stillranges.changing import program_copied, program_with_start
from stillranges.plain import a_name_of, a_number_below, a_place, a_range, a_step
from stillranges.spans import lies_within

# How many items an edit has, with its word.
EDIT_SIZES = {"put": 3, "take": 2, "turn": 3, "start": 3, "wish": 2, "drop": 2}


def _a_wish(program, value):
    if not isinstance(value, tuple) or len(value) != 3:
        return False
    place, name, span = value
    return a_place(program, place) and a_name_of(program, name) and a_range(span)


def _suits(program, wishes, edit):
    """Whether a tuple that begins with the word of an edit, and has its size, can be done."""
    names, many, _, steps = program
    word = edit[0]
    if word == "put":
        return a_number_below(len(steps) + 1, edit[1]) and a_step(names, many, edit[2])
    if word == "take":
        return a_number_below(len(steps), edit[1])
    if word == "turn":
        return a_number_below(len(steps), edit[1]) and a_step(names, many, edit[2])
    if word == "start":
        return a_name_of(program, edit[1]) and a_range(edit[2])
    if word == "wish":
        return _a_wish(program, edit[1])
    return a_number_below(len(wishes), edit[1])


def an_edit(program, wishes, value):
    """Whether any value is an edit that can be done."""
    if not isinstance(value, tuple) or not value or not isinstance(value[0], str):
        return False
    return EDIT_SIZES.get(value[0]) == len(value) and _suits(program, wishes, value)


def program_edited(program, edit):
    """The program behind an edit: itself if it changes wishes alone."""
    word = edit[0]
    if word == "start":
        return program_with_start(program, edit[1], edit[2])
    names, many, start, steps = program_copied(program)
    if word == "put":
        steps.insert(edit[1], edit[2])
    elif word == "take":
        steps.pop(edit[1])
    elif word == "turn":
        steps[edit[1]] = edit[2]
    return (names, many, start, steps)


def wishes_edited(wishes, edit):
    """The wishes behind an edit."""
    if edit[0] == "wish":
        return wishes + [edit[1]]
    if edit[0] == "drop":
        return wishes[:edit[1]] + wishes[edit[1] + 1:]
    return wishes


def _is_met(program, table, wish):
    place, name, span = wish
    return table[place] is None or lies_within(table[place][program[0].index(name)], span)


def not_met(program, table, wishes):
    """The numbers of the wishes that are not met in a table."""
    return [number for number, wish in enumerate(wishes) if not _is_met(program, table, wish)]


def places_endless(program, table, name):
    """The places at which a name has an endless end in a table."""
    at = program[0].index(name)
    return [place for place, row in enumerate(table) if row is not None and None in row[at]]
