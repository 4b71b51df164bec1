"""Numbers that come to a told number by a deed. Everything handed in is trusted to be what it should."""

from stillranges.deeds import number_made, passes, written_name
from stillranges.rows import cut_row, row_holds
from stillranges.spans import any_number, holds, met


def _narrowed(row, at, span):
    """A row of which one range is cut to another range, None if nothing is left."""
    both = met(row[at], span)
    return None if both is None else [*row[:at], both, *row[at + 1:]]


def _ahead_of_two(row, one, other, number, beside):
    """The row ahead where the number at `one` is picked, and that at `other` lies within the range beside it."""
    ahead = _narrowed(row, one, (number, number))
    return None if ahead is None else _narrowed(ahead, other, beside)


def _ahead_of_written(names, deed, row, number):
    word = deed[0]
    if word == "set":
        return row if number == deed[2] else None
    if word == "input":
        return row if holds(deed[2], number) else None
    second = names.index(deed[2])
    if word in ("add", "turn"):
        from_second = number - deed[3] if word == "add" else deed[3] - number
        return _narrowed(row, second, (from_second, from_second))
    third = names.index(deed[3])
    beside = (number, None) if word == "least" else (None, number)
    ahead = _ahead_of_two(row, second, third, number, beside)
    return _ahead_of_two(row, third, second, number, beside) if ahead is None else ahead


def _row_ahead(names, deed, row, name, number):
    """A row all of whose numbers that pass the deed come to the number at the name, None if there is none."""
    if written_name(deed) == name:
        return _ahead_of_written(names, deed, row, number)
    return _narrowed(row, names.index(name), (number, number))


def _numbers_passing(names, deed, row):
    """Numbers that a row holds and that pass a deed, None if there are none."""
    cut = cut_row(names, deed, row)
    if cut is None:
        return None
    # A cut row has no gaps: whatever is picked at one name, something is left at each other one.
    for at in range(len(names)):
        number = any_number(cut[at])
        cut = cut_row(names, deed, [*cut[:at], (number, number), *cut[at + 1:]])
    return [span[0] for span in cut]


def numbers_ahead(names, deed, row, name, number):
    """Numbers of a row that pass a deed and come to a number at a name, None if there are none."""
    ahead = _row_ahead(names, deed, row, name, number)
    return None if ahead is None else _numbers_passing(names, deed, ahead)


def leads_to(names, deed, row, name, number, numbers):
    """Whether the row holds the numbers, and they pass a deed and can come to a number at a name."""
    if not row_holds(row, numbers) or not passes(names, deed, numbers):
        return False
    if written_name(deed) != name:
        return numbers[names.index(name)] == number
    if deed[0] == "input":
        return holds(deed[2], number)
    return number_made(names, deed, numbers, None) == number
