"""The errors of the package."""


class BoundError(ValueError):
    """What every error of the package is."""


class InvalidNumber(BoundError):
    """What should be a number, or a list of numbers, is none."""

    def __init__(self, value=None):
        self.value = value


class InvalidName(BoundError):
    """What should be a name, or names, is none."""

    def __init__(self, value=None):
        self.value = value


class InvalidRange(BoundError):
    """What should be a range is none."""

    def __init__(self, value=None):
        self.value = value


class InvalidProgram(BoundError):
    """What should be a program is none."""

    def __init__(self, value=None):
        self.value = value


class InvalidStep(BoundError):
    """What should be a step, or a move that can go, is none."""

    def __init__(self, value=None):
        self.value = value


class InvalidDeed(BoundError):
    """What should be a deed is none."""

    def __init__(self, value=None):
        self.value = value


class InvalidPlace(BoundError):
    """What should be a place is none."""

    def __init__(self, value=None):
        self.value = value


class InvalidBound(BoundError):
    """What should be a bound is none."""

    def __init__(self, value=None):
        self.value = value


class InvalidState(BoundError):
    """What should be a state is none."""

    def __init__(self, value=None):
        self.value = value


class InvalidRun(BoundError):
    """What should be a run is none."""

    def __init__(self, value=None):
        self.value = value


class InvalidRow(BoundError):
    """What should be a row is none."""

    def __init__(self, value=None):
        self.value = value


class InvalidTable(BoundError):
    """What should be a table, or values, is none."""

    def __init__(self, value=None):
        self.value = value


class InvalidOpen(BoundError):
    """What should be open steps is none."""

    def __init__(self, value=None):
        self.value = value


class InvalidPlan(BoundError):
    """What should be a plan, or an option, is none."""

    def __init__(self, value=None):
        self.value = value


class InvalidPaper(BoundError):
    """What should be a paper, or a ring, is none."""

    def __init__(self, value=None):
        self.value = value


class InvalidWidth(BoundError):
    """What should be a width is none."""

    def __init__(self, value=None):
        self.value = value


class InvalidWish(BoundError):
    """What should be a wish is none."""

    def __init__(self, value=None):
        self.value = value


class InvalidText(BoundError):
    """What should be a text is none."""

    def __init__(self, value=None):
        self.value = value


class InvalidEdit(BoundError):
    """What should be an edit, or a live checker, is none."""

    def __init__(self, value=None):
        self.value = value


class Unlike(BoundError):
    """Two programs do not have the same names and places."""

    def __init__(self, value=None):
        self.value = value


class TooMany(BoundError):
    """There are more than are told."""

    def __init__(self, value=None):
        self.value = value


class Stuck(BoundError):
    """It can not be gone on from here."""

    def __init__(self, value=None):
        self.value = value


class NothingToUndo(BoundError):
    """No edit is left to be taken back."""


class NothingToRedo(BoundError):
    """No edit is left to be done again."""
