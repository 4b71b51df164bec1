"""Numbers on a machine of a width. Numbers and widths are trusted to be some."""


def width_needed(number):
    """The least width that a number fits."""
    return (number if number >= 0 else -number - 1).bit_length() + 1


def span_fitting(width):
    """The range of the numbers that fit."""
    half = 1 << (width - 1)
    return (-half, half - 1)


def span_fits(width, span):
    return None not in span and max([width_needed(end) for end in span]) <= width


def number_wrapped(width, number):
    """What a machine of a width makes of a number, the number itself without one."""
    if width is None or width_needed(number) <= width:
        return number
    half = 1 << (width - 1)
    return (number + half) % (2 * half) - half
