"""Bundles of parts, the contexts in which parts are called, and the programs that tell these apart.

Bundles are trusted to be some, but by what tells whether a value is one. A part stands also as a program: with the
names and the start of its bundle.
"""

from stillranges.opening import least_of
from stillranges.plain import a_deed, a_number_below, a_whole, some_names, some_ranges
from stillranges.rows import joined_at_place

CALL = "call"
GO = ("go",)


def _a_call(parts, value):
    return isinstance(value, tuple) and len(value) == 2 and value[0] == CALL and a_number_below(len(parts), value[1])


def _a_step(names, parts, many, value):
    if not isinstance(value, tuple) or len(value) != 3:
        return False
    source, target, deed = value
    if not a_number_below(many, source) or not a_number_below(many, target):
        return False
    return a_deed(names, deed) or _a_call(parts, deed)


def _a_part(names, parts, value):
    if not isinstance(value, tuple) or len(value) != 2:
        return False
    many, steps = value
    if not a_whole(many) or many < 1 or not isinstance(steps, list):
        return False
    return all([_a_step(names, parts, many, step) for step in steps])


def a_bundle(value):
    if not isinstance(value, tuple) or len(value) != 3:
        return False
    names, start, parts = value
    if not some_names(names) or not some_ranges(names, start) or not isinstance(parts, list) or not parts:
        return False
    return all([_a_part(names, parts, part) for part in parts])


def part_as_program(bundle, part):
    names, start, parts = bundle
    many, steps = parts[part]
    return (names, many, start, steps)


def calls_of(bundle, part):
    """The list of the tuples of the number of a step of a part that is a call, and of the part called."""
    _, steps = bundle[2][part]
    return [(number, deed[1]) for number, (_, _, deed) in enumerate(steps) if deed[0] == CALL]


def _context_behind(context, call, depth):
    """The context of a call that is made in a context."""
    part, calls = context
    step, called = call
    told = (*calls, (part, step))
    return (called, told[max(0, len(told) - depth):])


def contexts_at(bundle, depth):
    """The contexts that can come, in order, if so many calls are told apart."""
    found = {(0, ()): True}
    waiting = list(found)
    while waiting:
        context = waiting.pop()
        for call in calls_of(bundle, context[0]):
            behind = _context_behind(context, call, depth)
            if behind not in found:
                found[behind] = True
                waiting.append(behind)
    return sorted(found)


def most_calls(bundle):
    """The greatest number of calls one in another, None if there is no greatest one."""
    parts = [0]
    for many in range(len(bundle[2])):
        parts = sorted(set([called for part in parts for _, called in calls_of(bundle, part)]))
        if not parts:
            return many
    # With as many calls one in another as there are parts, one of them has come to call itself.
    return None


def _steps_between(bundle, homes, context, number, depth):
    """The steps between homes that a step of a part is in a context."""
    part, calls = context
    source, target, deed = bundle[2][part][1][number]
    here, there = homes[(part, source, calls)], homes[(part, target, calls)]
    if deed[0] != CALL:
        return [(here, there, deed)]
    called, inner = _context_behind(context, (number, deed[1]), depth)
    last = bundle[2][called][0] - 1
    return [(here, homes[(called, 0, inner)], GO), (homes[(called, last, inner)], there, GO)]


def expanded_at(bundle, depth):
    """The program in which so many calls are told apart, and its homes."""
    names, start, parts = bundle
    contexts = contexts_at(bundle, depth)
    homes = sorted([(part, place, calls) for part, calls in contexts for place in range(parts[part][0])])
    numbers = {home: number for number, home in enumerate(homes)}
    steps = []
    for context in contexts:
        for number in range(len(parts[context[0]][1])):
            steps.extend(_steps_between(bundle, numbers, context, number, depth))
    return ((list(names), len(homes), list(start), steps), homes)


def tables_at(bundle, depth):
    """For each part the list of the least rows of its places within which lie those of their homes."""
    program, homes = expanded_at(bundle, depth)
    tables = [[None] * many for many, _ in bundle[2]]
    for (part, place, _), row in zip(homes, least_of(program)):
        tables[part][place] = joined_at_place(tables[part][place], row)
    return tables
