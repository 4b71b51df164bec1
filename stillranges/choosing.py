"""Programs with some of their steps, and the least lists of steps that do. All handed in is trusted.

Whether a list does is told by a function, of what else is told and of the list; a list with more numbers does, too.
"""

from itertools import combinations

from stillranges.opening import least_of


def all_steps(program):
    return list(range(len(program[3])))


def without(numbers, left_out):
    return [number for number in numbers if number not in left_out]


def program_with_only(program, chosen):
    names, many, start, steps = program
    return (list(names), many, list(start), [steps[number] for number in chosen])


def least_with_only(program, chosen):
    """The least table of a program with some of its steps."""
    return least_of(program_with_only(program, chosen))


def lessened(does, told, numbers):
    """A list that does, and no longer if any number of it is left out: each is left out, the first one first."""
    kept = numbers
    for number in numbers:
        less = without(kept, [number])
        if does(told, less):
            kept = less
    return kept


def is_least_doing(does, told, numbers):
    """Whether a list does, and no longer if any number of it is left out."""
    if not does(told, numbers):
        return False
    return not any([does(told, without(numbers, [number])) for number in numbers])


def _holds_one_of(lots, numbers):
    return any([all([number in numbers for number in lot]) for lot in lots])


def all_least_doing(does, told, numbers):
    """The list, in order, of all lists that do, and no longer if any number of them is left out."""
    needed = [number for number in numbers if not does(told, without(numbers, [number]))]
    others = without(numbers, needed)
    found = []
    for many in range(len(others) + 1):
        for more in combinations(others, many):
            chosen = sorted([*needed, *more])
            # A list that holds one that does is longer than it, so this one is found already.
            if not _holds_one_of(found, chosen) and does(told, chosen):
                found.append(chosen)
    return sorted(found)
