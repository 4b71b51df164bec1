"""How great the numbers are that a program tells, and that its ends can be. Programs are trusted to be some."""

from stillranges.plain import DEED_FORMS


def numbers_in(span):
    """The ends of a range that are numbers."""
    return [end for end in span if end is not None]


def _numbers_of(deed):
    """The whole numbers that a deed tells."""
    numbers = []
    for form, part in zip(DEED_FORMS[deed[0]], deed[1:]):
        if form == "c":
            numbers.append(part)
        elif form == "r":
            numbers.extend(numbers_in(part))
    return numbers


def greatest_number(program):
    """The greatest whole number, each without its sign, in the deeds and the ranges of a program."""
    numbers = [0]
    for span in program[2]:
        numbers.extend(numbers_in(span))
    for _, _, deed in program[3]:
        numbers.extend(_numbers_of(deed))
    return max([abs(number) for number in numbers])


def limit_of_ends(program):
    """What no end passes of the least table, or of those that lead to it."""
    names, many, _, _ = program
    return greatest_number(program) * len(names) * 2 * many
