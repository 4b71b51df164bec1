"""Programs with checks, and steps and tests that are dead or idle. All handed in is trusted to be what it should."""

from stillranges.plain import TESTS
from stillranges.rows import steps_holding
from stillranges.spans import plus, turned_about
from stillranges.sums import has_sum
from stillranges.wrapping import span_fitting


def _with_check(step, place, width):
    """The three steps, through a place and the next one, in the place of a step with a sum."""
    source, target, deed = step
    fitting = span_fitting(width)
    if deed[0] in ("set", "input"):
        low, high = fitting
        return [(source, place, deed), (place, place + 1, ("from", deed[1], low)),
                (place + 1, target, ("upto", deed[1], high))]
    low, high = turned_about(fitting, deed[3]) if deed[0] == "turn" else plus(fitting, -deed[3])
    return [(source, place, ("from", deed[2], low)), (place, place + 1, ("upto", deed[2], high)),
            (place + 1, target, deed)]


def program_checked(program, width, steps):
    """The program in which some steps stop whoever comes to a sum that does not fit."""
    names, many, start, told = program
    checked = []
    for number, step in enumerate(told):
        if number in steps and has_sum(step[2]):
            checked.extend(_with_check(step, many, width))
            many = many + 2
        else:
            checked.append(step)
    return (list(names), many, list(start), checked)


def _never_above(span, other):
    """Whether no number of a range is above any number of another one."""
    return span[1] is not None and other[0] is not None and span[1] <= other[0]


def _all_pass(names, deed, row):
    """Whether all numbers that a row holds pass a test."""
    word = deed[0]
    first = row[names.index(deed[1])]
    if word == "upto":
        return _never_above(first, (deed[2], None))
    if word == "from":
        return _never_above((None, deed[2]), first)
    second = plus(row[names.index(deed[2])], deed[3])
    return _never_above(first, second) and (word == "below" or _never_above(second, first))


def steps_dead(program, table):
    """The numbers of the steps that can't hold at a table."""
    holding = steps_holding(program, table)
    return [step for step in range(len(program[3])) if step not in holding]


def tests_idle(program, table):
    """The numbers of the tests that all numbers of the row pass."""
    idle = []
    for number, (source, _, deed) in enumerate(program[3]):
        if deed[0] in TESTS and table[source] is not None and _all_pass(program[0], deed, table[source]):
            idle.append(number)
    return idle


def program_trimmed(program, table):
    """The program without the steps that are dead, and with idle tests gone."""
    names, many, start, steps = program
    dead = steps_dead(program, table)
    idle = tests_idle(program, table)
    kept = []
    for number, (source, target, deed) in enumerate(steps):
        if number not in dead:
            kept.append((source, target, ("go",) if number in idle else deed))
    return (list(names), many, list(start), kept)
