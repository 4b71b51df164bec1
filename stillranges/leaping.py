"""Going round with leaps at some places. Everything handed in is trusted to be what it should."""

from stillranges.going import places_unlike, round_on
from stillranges.opening import first_table


def cut_all_rings(program, places):
    """Whether each ring of steps leads to one of some places."""
    left = [(source, target) for source, target, _ in program[3] if target not in places]
    targets = [target for _, target in left]
    on = [(source, target) for source, target in left if source in targets]
    while on != left:
        left = on
        targets = [target for _, target in left]
        on = [(source, target) for source, target in left if source in targets]
    return not left


def _first_from(thresholds, number):
    """How many of some ascending numbers are below a number."""
    low, high = 0, len(thresholds)
    while low < high:
        middle = (low + high) // 2
        if thresholds[middle] < number:
            low = middle + 1
        else:
            high = middle
    return low


def _low_leapt(thresholds, low):
    at = 0 if low is None else _first_from(thresholds, low + 1)
    return thresholds[at - 1] if at > 0 else None


def _high_leapt(thresholds, high):
    at = len(thresholds) if high is None else _first_from(thresholds, high)
    return thresholds[at] if at < len(thresholds) else None


def _span_leapt(thresholds, span, wider):
    """A range that was another one, each end that is wider now put to the least wide threshold beyond it."""
    low = wider[0] if wider[0] == span[0] else _low_leapt(thresholds, wider[0])
    high = wider[1] if wider[1] == span[1] else _high_leapt(thresholds, wider[1])
    return (low, high)


def _row_leapt(thresholds, row, wider):
    return [_span_leapt(thresholds, span, beside) for span, beside in zip(row, wider)]


def gone_with_leaps(program, places, thresholds):
    """The table at which going round with leaps comes to rest, and how many rounds lead to it."""
    table = first_table(program)
    moved = [0]
    rounds = 0
    while True:
        behind = round_on(program, table, moved)
        for place in places:
            if table[place] is not None:
                behind[place] = _row_leapt(thresholds, table[place], behind[place])
        moved = places_unlike(table, behind)
        if not moved:
            return table, rounds
        table = behind
        rounds += 1
