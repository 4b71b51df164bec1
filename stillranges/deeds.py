"""What deeds read, write and make of numbers. Programs, deeds and numbers are trusted to be some.

With a width numbers are wrapped as a machine of it does, without one (None) they are of any size.
"""

from stillranges.plain import DEED_FORMS, TESTS, WRITING
from stillranges.wrapping import number_wrapped


def written_name(deed):
    """The name that a deed writes, None if it writes none."""
    return deed[1] if deed[0] in WRITING else None


def read_names(deed):
    """The names that a deed reads, in order, each once."""
    named = [part for form, part in zip(DEED_FORMS[deed[0]], deed[1:]) if form == "n"]
    if deed[0] in WRITING:
        named = named[1:]
    return sorted(set(named))


def passes(names, deed, numbers, width=None):
    """Whether one can go on by a deed with these numbers."""
    word = deed[0]
    if word not in TESTS:
        return True
    first = numbers[names.index(deed[1])]
    if word == "upto":
        return first <= deed[2]
    if word == "from":
        return first >= deed[2]
    second = number_wrapped(width, numbers[names.index(deed[2])] + deed[3])
    return first <= second if word == "below" else first == second


def number_made(names, deed, numbers, given):
    """The number that a writing deed writes; `given` is the one that comes in by an input."""
    word = deed[0]
    if word == "set":
        return deed[2]
    if word == "input":
        return given
    second = numbers[names.index(deed[2])]
    if word == "add":
        return second + deed[3]
    if word == "turn":
        return deed[3] - second
    third = numbers[names.index(deed[3])]
    return min(second, third) if word == "least" else max(second, third)


def numbers_behind(names, deed, numbers, given, width=None):
    """A new list of the numbers behind a deed that they pass."""
    behind = list(numbers)
    if deed[0] in WRITING:
        behind[names.index(deed[1])] = number_wrapped(width, number_made(names, deed, numbers, given))
    return behind
