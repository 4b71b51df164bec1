"""Steps opened again and again, and the least table behind. Programs are trusted to be some.

A turn is here a tuple of the open steps, of the least table of their phase, and of a sound plan without gains: the
next turn begins with its plan, so nothing is found twice.
"""

from stillranges.options import system_of, table_with
from stillranges.rows import steps_holding
from stillranges.solving import carried_on, plans_from


def first_table(program):
    return [list(program[2])] + [None] * (program[1] - 1)


def first_turn(program):
    return ([], first_table(program), carried_on(program, [], {}))


def steps_to_open(program, turn):
    """The numbers of the steps that can hold at the table of a turn and are not open."""
    opened, table, _ = turn
    return [step for step in steps_holding(program, table) if step not in opened]


def turn_behind(program, turn, steps):
    """The turn at which some more steps are open."""
    opened, _, plan = turn
    more = sorted(opened + steps)
    plan, values = plans_from(system_of(program, more), carried_on(program, more, plan))[-1]
    return (more, table_with(program, more, values), plan)


def _picked(steps, picks, at):
    """The steps that are opened at a turn: all of them if there are no picks."""
    if picks is None:
        return steps
    pick = picks[at] if at < len(picks) else 0
    return [steps[pick % len(steps)]]


def turns_by(program, picks):
    """The list of the turns, the first one with no step open; all steps at once are opened if `picks` is None."""
    turns = [first_turn(program)]
    steps = steps_to_open(program, turns[-1])
    while steps:
        turns.append(turn_behind(program, turns[-1], _picked(steps, picks, len(turns) - 1)))
        steps = steps_to_open(program, turns[-1])
    return turns


def least_of(program):
    """The least table."""
    return turns_by(program, None)[-1][1]
