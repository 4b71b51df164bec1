"""[5] Errors."""

from stillranges import errors
from tests.helpers import JUNK, Case

WITH_VALUE = [
    "InvalidNumber", "InvalidName", "InvalidRange", "InvalidProgram", "InvalidStep", "InvalidDeed", "InvalidPlace",
    "InvalidBound", "InvalidState", "InvalidRun", "InvalidRow", "InvalidTable", "InvalidOpen", "InvalidPlan",
    "InvalidPaper", "InvalidWidth", "InvalidWish", "InvalidText", "InvalidEdit", "Unlike", "TooMany", "Stuck",
]
WITHOUT = ["NothingToUndo", "NothingToRedo"]


class Errors(Case):
    def test_base(self):
        self.assertEqual(errors.BoundError.__bases__, (ValueError,))
        told = errors.BoundError("a", 2)
        self.assertEqual(told.args, ("a", 2))
        self.assertEqual(vars(told), {})
        self.assertEqual(str(errors.BoundError("why")), "why")
        self.assertFalse(hasattr(errors.BoundError(), "value"))

    def test_all_stand_directly_under_the_base(self):
        for name in WITH_VALUE + WITHOUT:
            made = getattr(errors, name)
            self.assertEqual(made.__bases__, (errors.BoundError,), name)
            self.assertEqual(made.__module__, "stillranges.errors")
            self.assertEqual(made.__name__, name)

    def test_made_by_position_by_name_and_with_nothing(self):
        for name in WITH_VALUE:
            made = getattr(errors, name)
            for value in JUNK:
                self.assertIs(made(value).value, value)
                self.assertIs(made(value=value).value, value)
            self.assertIsNone(made().value)
            self.assertEqual(list(vars(made(1))), ["value"])

    def test_one_object_does_not_tell_of_another(self):
        one, other = errors.Stuck([1]), errors.Stuck()
        self.assertEqual((one.value, other.value), ([1], None))

    def test_without_a_field(self):
        for name in WITHOUT:
            made = getattr(errors, name)()
            self.assertEqual(vars(made), {})
            self.assertFalse(hasattr(made, "value"))

    def test_raised_and_caught(self):
        for name in WITH_VALUE + WITHOUT:
            with self.assertRaises(ValueError):
                raise getattr(errors, name)()
