"""Bundles of parts that call one another, with how many calls are told apart."""

from stillranges.bundles import a_bundle, contexts_at, expanded_at, most_calls, tables_at
from stillranges.errors import InvalidProgram, InvalidRun, InvalidState, InvalidWish
from stillranges.needs import need_count
from stillranges.plain import a_number_below, some_numbers, some_ranges
from stillranges.rows import row_holds, within_at_place
from stillranges.walking import walk_stands


def _need_bundle(bundle):
    if not a_bundle(bundle):
        raise InvalidProgram(bundle)


def _need_bundle_and_depth(bundle, depth):
    _need_bundle(bundle)
    need_count(depth)


def _need_beginning(bundle, numbers):
    _need_bundle(bundle)
    if not some_numbers(bundle, numbers) or not row_holds(bundle[1], numbers):
        raise InvalidState(numbers)


def is_bundle(value):
    return a_bundle(value)


def is_walk(bundle, numbers, value):
    """Whether any value is a walk that begins with some numbers."""
    _need_beginning(bundle, numbers)
    return walk_stands(bundle, numbers, value) is not None


def stands_of(bundle, numbers, walk):
    """The stands of a walk that begins with some numbers, the first one ahead."""
    _need_beginning(bundle, numbers)
    stands = walk_stands(bundle, numbers, walk)
    if stands is None:
        raise InvalidRun(walk)
    return stands


def contexts_of(bundle, depth):
    """The parts that can come with the last calls, at most so many, in order."""
    _need_bundle_and_depth(bundle, depth)
    return contexts_at(bundle, depth)


def deepest(bundle):
    """The greatest number of calls one in another, None if a part comes to call itself."""
    _need_bundle(bundle)
    return most_calls(bundle)


def expanded(bundle, depth):
    """The program in which the last calls, at most so many, are told apart, and its homes."""
    _need_bundle_and_depth(bundle, depth)
    return expanded_at(bundle, depth)


def bundle_tables(bundle, depth):
    """For each part the least rows of its places, with so many calls told apart."""
    _need_bundle_and_depth(bundle, depth)
    return tables_at(bundle, depth)


def _a_wish(bundle, value):
    if not isinstance(value, tuple) or len(value) != 3:
        return False
    names, _, parts = bundle
    part, place, row = value
    return a_number_below(len(parts), part) and a_number_below(parts[part][0], place) and some_ranges(names, row)


def _all_hold(tables, wishes):
    return all([within_at_place(tables[part][place], row) for part, place, row in wishes])


def depth_for(bundle, wishes, most):
    """The least depth, at most some number, with which all wishes hold, None if there is none."""
    _need_bundle(bundle)
    if not isinstance(wishes, list) or not all([_a_wish(bundle, wish) for wish in wishes]):
        raise InvalidWish(wishes)
    need_count(most)
    calls = most_calls(bundle)
    # With more depth than calls one in another nothing more is told apart.
    last = most if calls is None else min(most, calls)
    for depth in range(last + 1):
        if _all_hold(tables_at(bundle, depth), wishes):
            return depth
    return None
