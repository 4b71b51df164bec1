"""The sums that deeds work out, and which of them fit. Programs, rows and widths are trusted to be some."""

from stillranges.spans import plus, turned_about
from stillranges.wrapping import span_fits

SUMMING = ("set", "add", "turn", "input", "below", "equal")


def starts_fitting(program, width):
    """Whether all ranges of the start fit."""
    return all([span_fits(width, span) for span in program[2]])


def has_sum(deed):
    return deed[0] in SUMMING


def sum_span(names, deed, row):
    """The range of the sums of a deed for the numbers that a row holds, whether they pass it or not."""
    word = deed[0]
    if word == "set":
        return (deed[2], deed[2])
    if word == "input":
        return deed[2]
    second = row[names.index(deed[2])]
    return turned_about(second, deed[3]) if word == "turn" else plus(second, deed[3])


def sum_at(program, table, deed, source):
    """The range of the sums of a deed at the row of a place, None if it has none, or there is no row."""
    if table[source] is None or not has_sum(deed):
        return None
    return sum_span(program[0], deed, table[source])


def steps_wanting(program, table, width):
    """The numbers of the steps whose sums at a table do not fit."""
    found = []
    for step, (source, _, deed) in enumerate(program[3]):
        span = sum_at(program, table, deed, source)
        if span is not None and not span_fits(width, span):
            found.append(step)
    return found
