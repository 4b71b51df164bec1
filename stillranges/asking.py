"""Asking back: whether a wish holds, and the widest test, input or beginning with which it does."""

from stillranges.changing import program_guarded, program_with_input, program_with_start
from stillranges.errors import InvalidBound, InvalidDeed, InvalidNumber, InvalidPlace, InvalidStep
from stillranges.needs import need_name, need_place, need_program, need_range, need_step, need_wish
from stillranges.opening import least_of
from stillranges.options import bounds_at
from stillranges.plain import TESTS, a_deed, a_side, an_end
from stillranges.rows import end_of
from stillranges.searching import far_beyond, greatest_met, is_met


def wish_holds(program, wish):
    """Whether the least table lies within a wish."""
    need_program(program)
    need_wish(program, wish)
    return is_met(program, wish)


def _is_wider(end, wished, side):
    """Whether an end at a side is wider than another one."""
    if end is None or wished is None:
        return wished is not None
    return end > wished if side == "high" else end < wished


def _broken_in(program, least, wish, bound):
    """Whether a bound of the least table is wider than in a wish, or its place is wished never to be come to."""
    if wish[bound[0]] is None:
        return True
    return _is_wider(end_of(program, least, bound), end_of(program, wish, bound), bound[2])


def broken_at(program, wish):
    """The bounds of the least table at which a wish does not hold."""
    need_program(program)
    need_wish(program, wish)
    least = least_of(program)
    bounds = [bound for place in range(program[1]) for bound in bounds_at(program, place)]
    return [bound for bound in bounds if least[bound[0]] is not None and _broken_in(program, least, wish, bound)]


def _need_place_behind(program, place):
    need_program(program)
    need_place(program, place)
    # The program begins at the place 0, so nothing put in front of it is always gone through.
    if place == 0:
        raise InvalidPlace(place)


def guarded(program, place, deed):
    """The program in which a test is put in front of a place."""
    _need_place_behind(program, place)
    if not a_deed(program[0], deed) or deed[0] not in TESTS:
        raise InvalidDeed(deed)
    return program_guarded(program, place, deed)


def _test_told(name, side, number):
    return ("upto", name, number) if side == "high" else ("from", name, -number)


def _made_with_test(told, number):
    program, place, name, side = told
    return program_guarded(program, place, _test_told(name, side, number))


def widest_test(program, place, name, side, wish):
    """What has to be put in front of a place for a wish to hold, None if no test of a name at a side is enough."""
    _need_place_behind(program, place)
    need_name(program, name)
    if not a_side(side):
        raise InvalidBound(side)
    need_wish(program, wish)
    if is_met(program, wish):
        return ("go",)
    far = far_beyond(program_guarded(program, place, ("go",)), wish)
    number = greatest_met(wish, _made_with_test, (program, place, name, side), -far, far)
    return None if number is None else _test_told(name, side, number)


def _need_input(program, step):
    need_program(program)
    need_step(program, step)
    if program[3][step][2][0] != "input":
        raise InvalidStep(step)


def _need_end(low):
    if not an_end(low):
        raise InvalidNumber(low)


def _widest_range(wish, made, told):
    """The widest range with the low end that is told last with which a wish holds, None if there is none."""
    low = told[-1]
    if is_met(made(told, None), wish):
        return (low, None)
    far = far_beyond(made(told, low), wish)
    high = greatest_met(wish, made, told, -far if low is None else low, far)
    return None if high is None else (low, high)


def _made_with_input(told, high):
    program, step, low = told
    return program_with_input(program, step, (low, high))


def with_input(program, step, span):
    """The program in which an input has another range."""
    _need_input(program, step)
    need_range(span)
    return program_with_input(program, step, span)


def widest_input(program, step, wish, low):
    """The widest range of an input with a low end with which a wish holds, None if there is none."""
    _need_input(program, step)
    need_wish(program, wish)
    _need_end(low)
    return _widest_range(wish, _made_with_input, (program, step, low))


def _made_with_start(told, high):
    program, name, low = told
    return program_with_start(program, name, (low, high))


def with_start(program, name, span):
    """The program in which a name begins with another range."""
    need_program(program)
    need_name(program, name)
    need_range(span)
    return program_with_start(program, name, span)


def widest_start(program, name, wish, low):
    """The widest range of a name at the beginning with a low end with which a wish holds, None if there is none."""
    need_program(program)
    need_name(program, name)
    need_wish(program, wish)
    _need_end(low)
    return _widest_range(wish, _made_with_start, (program, name, low))
