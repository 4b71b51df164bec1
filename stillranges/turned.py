"""Programs scaled, moved, mirrored, renamed and in another order, and their tables alike."""

from stillranges.errors import InvalidName, InvalidNumber, InvalidPlace, InvalidStep
from stillranges.needs import need_number, need_program, need_table
from stillranges.plain import DEED_FORMS, a_name, a_place, a_step_number, a_whole
from stillranges.rows import copied_row
from stillranges.spans import plus, turned_about

MIRRORED_WORDS = {"least": "greatest", "greatest": "least", "upto": "from", "from": "upto"}


def _steps_with(program, deeds):
    """The steps of a program with other deeds, in order."""
    return [(source, target, deed) for (source, target, _), deed in zip(program[3], deeds)]


def _with(program, start, deeds):
    """The program with other ranges at the start and other deeds."""
    return (list(program[0]), program[1], start, _steps_with(program, deeds))


def _scaled_end(end, factor):
    return None if end is None else end * factor


def _scaled_span(span, factor):
    return (_scaled_end(span[0], factor), _scaled_end(span[1], factor))


def _scaled_part(form, part, factor):
    if form == "c":
        return part * factor
    return _scaled_span(part, factor) if form == "r" else part


def _scaled_deed(deed, factor):
    parts = [_scaled_part(form, part, factor) for form, part in zip(DEED_FORMS[deed[0]], deed[1:])]
    return (deed[0], *parts)


def _need_factor(factor):
    if not a_whole(factor) or factor < 1:
        raise InvalidNumber(factor)


def scaled(program, factor):
    """The program all of whose whole numbers are taken some times."""
    need_program(program)
    _need_factor(factor)
    deeds = [_scaled_deed(deed, factor) for _, _, deed in program[3]]
    return _with(program, [_scaled_span(span, factor) for span in program[2]], deeds)


def scaled_table(program, table, factor):
    """The table all of whose ends are taken some times."""
    need_program(program)
    need_table(program, table)
    _need_factor(factor)
    return [None if row is None else [_scaled_span(span, factor) for span in row] for row in table]


def _moved_deed(deed, number):
    word = deed[0]
    if word in ("set", "upto", "from"):
        return (word, deed[1], deed[2] + number)
    if word == "turn":
        return (word, deed[1], deed[2], deed[3] + 2 * number)
    if word == "input":
        return (word, deed[1], plus(deed[2], number))
    return deed


def moved(program, number):
    """The program all of whose names' numbers are greater by a number."""
    need_program(program)
    need_number(number)
    deeds = [_moved_deed(deed, number) for _, _, deed in program[3]]
    return _with(program, [plus(span, number) for span in program[2]], deeds)


def moved_table(program, table, number):
    """The table all of whose ends are greater by a number."""
    need_program(program)
    need_table(program, table)
    need_number(number)
    return [None if row is None else [plus(span, number) for span in row] for row in table]


def _mirrored_deed(deed):
    word = MIRRORED_WORDS.get(deed[0], deed[0])
    forms = DEED_FORMS[word]
    if word == "below":
        return (word, deed[2], deed[1], deed[3])
    if forms.endswith("c"):
        return (word, *deed[1:-1], -deed[-1])
    if forms.endswith("r"):
        return (word, deed[1], turned_about(deed[2], 0))
    return (word, *deed[1:])


def mirrored(program):
    """The program all of whose names stand for their opposites."""
    need_program(program)
    deeds = [_mirrored_deed(deed) for _, _, deed in program[3]]
    return _with(program, [turned_about(span, 0) for span in program[2]], deeds)


def mirrored_table(program, table):
    """The table with all ranges turned about 0."""
    need_program(program)
    need_table(program, table)
    return [None if row is None else [turned_about(span, 0) for span in row] for row in table]


def _all_once(many, numbers):
    """Whether some whole numbers below a number are all of them, each once."""
    return len(numbers) == many and len(set(numbers)) == many


def _need_places(program, places):
    if not isinstance(places, list) or not all([a_place(program, place) for place in places]):
        raise InvalidPlace(places)
    # The program begins at the place 0, so this one keeps its number.
    if not _all_once(program[1], places) or places[0] != 0:
        raise InvalidPlace(places)


def with_places(program, places):
    """The program in which each place has another number."""
    need_program(program)
    _need_places(program, places)
    names, many, start, steps = program
    renamed = [(places[source], places[target], deed) for source, target, deed in steps]
    return (list(names), many, list(start), renamed)


def with_places_table(program, table, places):
    """The table with its rows where the places are now."""
    need_program(program)
    need_table(program, table)
    _need_places(program, places)
    behind = dict(zip(places, table))
    return [copied_row(behind[place]) for place in range(program[1])]


def _need_new_names(program, names):
    if not isinstance(names, list) or not all([a_name(name) for name in names]):
        raise InvalidName(names)
    if not _all_once(len(program[0]), names):
        raise InvalidName(names)


def _in_new_order(spans, names):
    """Ranges of the names of old, in the order of the new ones."""
    new = dict(zip(names, spans))
    return [new[name] for name in sorted(names)]


def _renamed_deed(deed, new):
    parts = [new[part] if form == "n" else part for form, part in zip(DEED_FORMS[deed[0]], deed[1:])]
    return (deed[0], *parts)


def with_names(program, names):
    """The program whose names, in order, are other ones."""
    need_program(program)
    _need_new_names(program, names)
    new = dict(zip(program[0], names))
    deeds = [_renamed_deed(deed, new) for _, _, deed in program[3]]
    return (sorted(names), program[1], _in_new_order(program[2], names), _steps_with(program, deeds))


def with_names_table(program, table, names):
    """The table with each row in the order of the new names."""
    need_program(program)
    need_table(program, table)
    _need_new_names(program, names)
    return [None if row is None else _in_new_order(row, names) for row in table]


def with_steps(program, order):
    """The program with its steps in another order."""
    need_program(program)
    if not isinstance(order, list) or not all([a_step_number(program, step) for step in order]):
        raise InvalidStep(order)
    if not _all_once(len(program[3]), order):
        raise InvalidStep(order)
    names, many, start, steps = program
    return (list(names), many, list(start), [steps[number] for number in order])
