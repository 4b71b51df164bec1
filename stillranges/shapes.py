"""Places put together, and places split."""

from stillranges.errors import InvalidPlace, InvalidStep
from stillranges.needs import need_place, need_program, need_steps


def _number_now(place, one, other):
    """The number of a place when the other one is put to the one."""
    if place == other:
        return one
    return place - 1 if place > other else place


def joined_places(program, one, other):
    """The program in which a later place is an earlier one."""
    need_program(program)
    need_place(program, one)
    need_place(program, other)
    if other <= one:
        raise InvalidPlace(other)
    names, many, start, steps = program
    led = [(_number_now(source, one, other), _number_now(target, one, other), deed) for source, target, deed in steps]
    return (list(names), many - 1, list(start), led)


def split_place(program, place, steps):
    """The program in which some steps lead to a new place, from which one goes on as from a place."""
    need_program(program)
    need_place(program, place)
    need_steps(program, steps)
    names, many, start, told = program
    if not all([told[step][1] == place for step in steps]):
        raise InvalidStep(steps)
    led = []
    for number, (source, target, deed) in enumerate(told):
        led.append((source, many if number in steps else target, deed))
    beside = [(many, target, deed) for source, target, deed in led if source == place]
    return (list(names), many + 1, list(start), led + beside)
