"""Ends and ranges put together. Ranges and numbers are trusted to be some."""


def end_plus(end, number):
    return None if end is None else end + number


def _end_turned(end, number):
    return None if end is None else number - end


def _lesser_low(one, other):
    return None if one is None or other is None else min(one, other)


def _greater_high(one, other):
    return None if one is None or other is None else max(one, other)


def _greater_low(one, other):
    if one is None or other is None:
        return other if one is None else one
    return max(one, other)


def _lesser_high(one, other):
    if one is None or other is None:
        return other if one is None else one
    return min(one, other)


def holds(span, number):
    low, high = span
    return (low is None or low <= number) and (high is None or number <= high)


def size_of(span):
    """How many numbers a range holds, None if they are endlessly many."""
    low, high = span
    return None if low is None or high is None else high - low + 1


def lies_within(span, other):
    low, high = other
    if low is not None and (span[0] is None or span[0] < low):
        return False
    return high is None or (span[1] is not None and span[1] <= high)


def joined(span, other):
    return (_lesser_low(span[0], other[0]), _greater_high(span[1], other[1]))


def met(span, other):
    """The range of what both hold, None if there is nothing."""
    low = _greater_low(span[0], other[0])
    high = _lesser_high(span[1], other[1])
    if low is not None and high is not None and low > high:
        return None
    return (low, high)


def plus(span, number):
    return (end_plus(span[0], number), end_plus(span[1], number))


def turned_about(span, number):
    return (_end_turned(span[1], number), _end_turned(span[0], number))


def least_of(span, other):
    return (_lesser_low(span[0], other[0]), _lesser_high(span[1], other[1]))


def greatest_of(span, other):
    return (_greater_low(span[0], other[0]), _greater_high(span[1], other[1]))


def any_number(span):
    """A number that a range holds: an end where there is one."""
    low, high = span
    if low is not None:
        return low
    return 0 if high is None else high
