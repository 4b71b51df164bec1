"""What is what: whether any value is of a kind. Nothing here raises an error, and programs are trusted to be some."""

# What stands behind the word of a deed: n is a name, c a whole number, r a range.
DEED_FORMS = {
    "go": "",
    "set": "nc",
    "add": "nnc",
    "turn": "nnc",
    "input": "nr",
    "least": "nnn",
    "greatest": "nnn",
    "upto": "nc",
    "from": "nc",
    "below": "nnc",
    "equal": "nnc",
}
WRITING = ("set", "add", "turn", "input", "least", "greatest")
TESTS = ("upto", "from", "below", "equal")
PAIR_TESTS = ("below", "equal")
SIDES = ("high", "low")


def a_whole(value):
    # Python takes True and False for integers; here they are nowhere numbers.
    return isinstance(value, int) and not isinstance(value, bool)


def a_count(value):
    return a_whole(value) and value >= 0


def an_end(value):
    return value is None or a_whole(value)


def a_range(value):
    if not isinstance(value, tuple) or len(value) != 2:
        return False
    low, high = value
    if not an_end(low) or not an_end(high):
        return False
    return low is None or high is None or low <= high


def _a_short_count(word):
    if len(word) > 3 or (len(word) > 1 and word[0] == "0"):
        return False
    return all(["0" <= sign <= "9" for sign in word])


def a_name(value):
    if not isinstance(value, str):
        return False
    letters = 0
    while letters < len(value) and "a" <= value[letters] <= "z":
        letters += 1
    return 1 <= letters <= 6 and _a_short_count(value[letters:])


def ascending(values):
    return all([one < other for one, other in zip(values, values[1:])])


def some_names(value):
    if not isinstance(value, list) or not value:
        return False
    return all([a_name(name) for name in value]) and ascending(value)


def _a_part(names, form, value):
    if form == "n":
        return isinstance(value, str) and value in names
    if form == "c":
        return a_whole(value)
    return a_range(value)


def a_deed(names, value):
    if not isinstance(value, tuple) or not value or not isinstance(value[0], str):
        return False
    forms = DEED_FORMS.get(value[0])
    if forms is None or len(value) != len(forms) + 1:
        return False
    if not all([_a_part(names, form, part) for form, part in zip(forms, value[1:])]):
        return False
    return value[0] not in PAIR_TESTS or value[1] != value[2]


def a_number_below(many, value):
    return a_whole(value) and 0 <= value < many


def a_step(names, many, value):
    if not isinstance(value, tuple) or len(value) != 3:
        return False
    source, target, deed = value
    return a_number_below(many, source) and a_number_below(many, target) and a_deed(names, deed)


def some_ranges(names, value):
    if not isinstance(value, list) or len(value) != len(names):
        return False
    return all([a_range(span) for span in value])


def a_program(value):
    if not isinstance(value, tuple) or len(value) != 4:
        return False
    names, many, start, steps = value
    if not some_names(names) or not a_whole(many) or many < 1 or not some_ranges(names, start):
        return False
    return isinstance(steps, list) and all([a_step(names, many, step) for step in steps])


def a_name_of(program, value):
    return isinstance(value, str) and value in program[0]


def a_place(program, value):
    return a_number_below(program[1], value)


def some_places(program, value):
    """Whether a value is an ascending list of places."""
    return isinstance(value, list) and all([a_place(program, place) for place in value]) and ascending(value)


def a_step_number(program, value):
    return a_number_below(len(program[3]), value)


def some_steps(program, value):
    """Whether a value is an ascending list of numbers of steps."""
    return isinstance(value, list) and all([a_step_number(program, step) for step in value]) and ascending(value)


def some_numbers(program, value):
    """Whether a value is a list of whole numbers, one for each name."""
    if not isinstance(value, list) or len(value) != len(program[0]):
        return False
    return all([a_whole(number) for number in value])


def a_state(program, value):
    if not isinstance(value, tuple) or len(value) != 2:
        return False
    return a_place(program, value[0]) and some_numbers(program, value[1])


def a_row(program, value):
    return some_ranges(program[0], value)


def a_table(program, value):
    if not isinstance(value, list) or len(value) != program[1]:
        return False
    return all([row is None or a_row(program, row) for row in value])


def a_side(value):
    return isinstance(value, str) and value in SIDES


def a_bound(program, value):
    if not isinstance(value, tuple) or len(value) != 3:
        return False
    place, name, side = value
    return a_place(program, place) and a_name_of(program, name) and a_side(side)


def come_by(program, opened, places):
    """The dict of the places come to from some places on, with the step by which each is, None for these."""
    steps = {place: None for place in places}
    waiting = list(places)
    while waiting:
        place = waiting.pop()
        for step in opened:
            source, target, _ = program[3][step]
            if source == place and target not in steps:
                steps[target] = step
                waiting.append(target)
    return steps


def places_come_to(program, opened):
    """The ascending list of the places that are come to by some steps."""
    return sorted(come_by(program, opened, [0]))


def some_open(program, value):
    if not some_steps(program, value):
        return False
    come = places_come_to(program, value)
    return all([program[3][step][0] in come for step in value])
