"""Going round: all steps at once, again and again. Everything handed in is trusted to be what it should.

A round is worked out from the places alone whose rows are new: what comes of the others is held already.
"""

from stillranges.opening import first_table
from stillranges.options import bounds_at, system_of
from stillranges.rows import end_of, joined_at_place, row_behind, steps_holding


def round_on(program, table, moved):
    """The table joined with what comes of its rows, where those at some places alone are new."""
    behind = list(table)
    for source, target, deed in program[3]:
        if source in moved:
            behind[target] = joined_at_place(behind[target], row_behind(program[0], deed, table[source]))
    return behind


def places_unlike(table, other):
    """The places at which two tables have unlike rows."""
    return [place for place, (row, beside) in enumerate(zip(table, other)) if row != beside]


def rounds_gone(program, most):
    """The table behind `most` rounds, at least one, and how many of them there were until it came to rest."""
    table = first_table(program)
    moved = [0]
    rounds = 1
    while rounds < most:
        behind = round_on(program, table, moved)
        moved = places_unlike(table, behind)
        if not moved:
            return table, rounds
        table = behind
        rounds += 1
    return table, rounds


def _all_told(sides, told):
    """Whether the sides of an option are endless by what the program tells alone."""
    return all([addend is None if behind is None else behind in told for behind, addend in sides])


def _newly_told(system, told):
    found = []
    for bound, options in system.items():
        if bound not in told and any([_all_told(sides, told) for sides in options.values()]):
            found.append(bound)
    return found


def bounds_told_endless(program, least):
    """The dict of the bounds of the least table that are endless by what is told, and not by climbing."""
    system = system_of(program, steps_holding(program, least))
    told = {}
    new = _newly_told(system, told)
    while new:
        for bound in new:
            told[bound] = True
        new = _newly_told(system, told)
    return told


def comes_to_rest(program, least):
    """Whether some number of rounds leads to the least table."""
    told = bounds_told_endless(program, least)
    for place in range(program[1]):
        for bound in bounds_at(program, place) if least[place] is not None else []:
            if end_of(program, least, bound) is None and bound not in told:
                return False
    return True
