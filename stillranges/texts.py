"""The texts of ranges, deeds, programs and tables, and what has a text.

A text is read loosely, and what is read is taken only if it is of its kind and its text is this very string:
so no other string than the texts is one.
"""

from stillranges.errors import InvalidText
from stillranges.figures import figures, number_told
from stillranges.needs import need_deed, need_names, need_program, need_range, need_table
from stillranges.plain import a_deed, a_program, a_range, a_table

# The signs of the tests, and the deeds that a sign tells ahead of one word and of a sum.
TEST_SIGNS = {"upto": "<=", "from": ">=", "below": "<=", "equal": "="}
SIGNS_OF_NUMBERS = {":=": "set", "<=": "upto", ">=": "from"}
SIGNS_OF_SUMS = {":=": "add", "<=": "below", "=": "equal"}


def _range_text(span):
    low, high = ["" if end is None else figures(end) for end in span]
    return f"{low}..{high}"


def _sum_text(name, number):
    if number < 0:
        return f"{name} - {figures(-number)}"
    return f"{name} + {figures(number)}"


def _written_text(deed):
    word = deed[0]
    if word == "set":
        return figures(deed[2])
    if word == "add":
        return _sum_text(deed[2], deed[3])
    if word == "turn":
        return f"{figures(deed[3])} - {deed[2]}"
    if word == "input":
        return _range_text(deed[2])
    return f"{word} {deed[2]} {deed[3]}"


def _deed_text(deed):
    if deed[0] == "go":
        return "go"
    if deed[0] not in TEST_SIGNS:
        return f"{deed[1]} := {_written_text(deed)}"
    compared = figures(deed[2]) if len(deed) == 3 else _sum_text(deed[2], deed[3])
    return f"{deed[1]} {TEST_SIGNS[deed[0]]} {compared}"


def _program_text(program):
    names, many, start, steps = program
    lines = [" ".join(["names:", *names]), " ".join(["start:", *[_range_text(span) for span in start]])]
    lines.append(f"places: {figures(many)}")
    for source, target, deed in steps:
        lines.append(f"{figures(source)} -> {figures(target)}: {_deed_text(deed)}")
    return "\n".join(lines) + "\n"


def _row_text(row):
    return "none" if row is None else " ".join([_range_text(span) for span in row])


def _table_text(table):
    return "".join([f"{place}: {_row_text(row)}\n" for place, row in enumerate(table)])


def _end_told(word):
    """An end of a range as a list of it alone, an empty list if the word tells none."""
    if word == "":
        return [None]
    number = number_told(word)
    return [] if number is None else [number]


def _range_told(word):
    """What a word tells as a range, perhaps none at all."""
    low, _, high = word.partition("..")
    return tuple(_end_told(low) + _end_told(high))


def _short_deed_told(words):
    """What a name, a sign and one word tell, perhaps no deed at all."""
    name, sign, word = words
    number = number_told(word)
    if sign == ":=" and number is None:
        return ("input", name, _range_told(word))
    return (SIGNS_OF_NUMBERS.get(sign), name, number)


def _long_deed_told(words):
    """What a name, a sign and three words tell, perhaps no deed at all."""
    name, sign, one, link, other = words
    if link not in ("+", "-"):
        return (one, name, link, other)
    number = number_told(other)
    if number is None:
        return ("turn", name, other, number_told(one))
    return (SIGNS_OF_SUMS.get(sign), name, one, number if link == "+" else -number)


def _deed_told(text):
    words = text.split(" ")
    if len(words) == 3:
        return _short_deed_told(words)
    if len(words) == 5:
        return _long_deed_told(words)
    return ("go",)


def _step_told(line):
    places, _, deed = line.partition(": ")
    words = places.split(" ")
    return (number_told(words[0]), number_told(words[-1]), _deed_told(deed))


def _program_told(text):
    lines = text.split("\n")
    if len(lines) < 4:
        return None
    names = lines[0].split(" ")[1:]
    start = [_range_told(word) for word in lines[1].split(" ")[1:]]
    many = number_told(lines[2].split(" ")[-1])
    return (names, many, start, [_step_told(line) for line in lines[3:-1]])


def _row_told(line):
    words = line.split(" ")[1:]
    return None if words == ["none"] else [_range_told(word) for word in words]


def _table_told(text):
    return [_row_told(line) for line in text.split("\n")[:-1]]


def text_of_range(span):
    need_range(span)
    return _range_text(span)


def text_of_deed(names, deed):
    need_names(names)
    need_deed(names, deed)
    return _deed_text(deed)


def text_of_program(program):
    need_program(program)
    return _program_text(program)


def text_of_table(program, table):
    need_program(program)
    need_table(program, table)
    return _table_text(table)


def _need_string(text):
    if not isinstance(text, str):
        raise InvalidText(text)


def range_of_text(text):
    _need_string(text)
    span = _range_told(text)
    if not a_range(span) or _range_text(span) != text:
        raise InvalidText(text)
    return span


def deed_of_text(names, text):
    need_names(names)
    _need_string(text)
    deed = _deed_told(text)
    if not a_deed(names, deed) or _deed_text(deed) != text:
        raise InvalidText(text)
    return deed


def program_of_text(text):
    _need_string(text)
    program = _program_told(text)
    if not a_program(program) or _program_text(program) != text:
        raise InvalidText(text)
    return program


def table_of_text(program, text):
    need_program(program)
    _need_string(text)
    table = _table_told(text)
    if not a_table(program, table) or _table_text(table) != text:
        raise InvalidText(text)
    return table
