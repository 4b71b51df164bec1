"""Rows and tables put together, and what comes of them. Everything handed in is trusted to be what it should."""

from stillranges.plain import TESTS, WRITING
from stillranges.spans import greatest_of, holds, joined, least_of, lies_within, met, plus
from stillranges.sums import has_sum, sum_span


def row_holds(row, numbers):
    return all([holds(span, number) for span, number in zip(row, numbers)])


def within_row(row, other):
    return all([lies_within(span, beside) for span, beside in zip(row, other)])


def joined_rows(row, other):
    return [joined(span, beside) for span, beside in zip(row, other)]


def met_rows(row, other):
    """The row of what both hold, None if there is nothing."""
    both = [met(span, beside) for span, beside in zip(row, other)]
    return None if None in both else both


def end_of(program, table, bound):
    """A bound's value in a table that has a row at its place."""
    place, name, side = bound
    low, high = table[place][program[0].index(name)]
    return low if side == "low" else high


def copied_row(row):
    return None if row is None else list(row)


def joined_at_place(row, other):
    """The rows of a place in two tables joined, where each may be None."""
    if row is None or other is None:
        return copied_row(other if row is None else row)
    return joined_rows(row, other)


def met_at_place(row, other):
    return None if row is None or other is None else met_rows(row, other)


def within_at_place(row, other):
    return row is None or (other is not None and within_row(row, other))


def within_table(table, other):
    return all([within_at_place(row, beside) for row, beside in zip(table, other)])


def _span_made(names, deed, row):
    """The range of the numbers that a writing deed writes."""
    if has_sum(deed):
        return sum_span(names, deed, row)
    second, third = row[names.index(deed[2])], row[names.index(deed[3])]
    return least_of(second, third) if deed[0] == "least" else greatest_of(second, third)


def _cut_by_pair(names, deed, row):
    first, second = names.index(deed[1]), names.index(deed[2])
    # Both limits are told by the ends ahead of the test.
    above = plus(row[second], deed[3])
    beneath = plus(row[first], -deed[3])
    if deed[0] == "below":
        above, beneath = (None, above[1]), (beneath[0], None)
    cut = list(row)
    cut[first] = met(row[first], above)
    cut[second] = met(row[second], beneath)
    return None if None in cut else cut


def _cut_by_number(names, deed, row):
    at = names.index(deed[1])
    cut = list(row)
    cut[at] = met(row[at], (None, deed[2]) if deed[0] == "upto" else (deed[2], None))
    return None if None in cut else cut


def cut_row(names, deed, row):
    """The least row of what passes a deed of a row, None if nothing does."""
    if deed[0] not in TESTS:
        return list(row)
    if len(deed) == 3:
        return _cut_by_number(names, deed, row)
    return _cut_by_pair(names, deed, row)


def row_behind(names, deed, row):
    """What comes of a row by a deed, None if it can't hold."""
    if deed[0] not in WRITING:
        return cut_row(names, deed, row)
    behind = list(row)
    behind[names.index(deed[1])] = _span_made(names, deed, row)
    return behind


def row_by_step(program, step, table):
    """What comes of a table by a step, None if nothing does."""
    source, _, deed = program[3][step]
    if table[source] is None:
        return None
    return row_behind(program[0], deed, table[source])


def steps_holding(program, table):
    """The numbers of the steps of which something comes."""
    return [step for step in range(len(program[3])) if row_by_step(program, step, table) is not None]


def table_led(program, table):
    """The table that is led by a table."""
    led = [None] * program[1]
    led[0] = list(program[2])
    for step in range(len(program[3])):
        target = program[3][step][1]
        led[target] = joined_at_place(led[target], row_by_step(program, step, table))
    return led


def holds_start_row(program, table):
    return table[0] is not None and within_row(program[2], table[0])


def steps_not_kept(program, table):
    """The numbers of the steps by which something comes that does not lie within the row of the target."""
    amiss = []
    for step in range(len(program[3])):
        target = program[3][step][1]
        if not within_at_place(row_by_step(program, step, table), table[target]):
            amiss.append(step)
    return amiss


def kept_table(program, table):
    return holds_start_row(program, table) and not steps_not_kept(program, table)
