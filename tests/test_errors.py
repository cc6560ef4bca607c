"""The errors of the interface."""

import inspect
import unittest

from oncefound import errors
from oncefound.tables import Table

ATTRIBUTES = {
    "AllUnread": ("matter",), "BadText": ("line", "column"), "Crosses": ("parting",), "NotThree": ("matter",),
    "NotTwo": ("matter",), "TooMany": ("most",), "Unlike": ("place",),
}
OTHERS = """
BadArrows BadClosing BadColumn BadCustom BadCustomTree BadCustoms BadFilling BadKind BadKinds BadMany BadMatter
BadMatters BadMoment BadMore BadParting BadPartings BadPlace BadQuartet BadQuartets BadRow BadRows BadSeats
BadTable BadTie BadTies BadTree BadValley BadValleys Clash NoFit NothingDone NothingUndone OtherMany Unread
""".split()


class Errors(unittest.TestCase):
    def test_all_are_there_and_no_more(self):
        found = [name for name, _ in inspect.getmembers(errors, inspect.isclass)]
        self.assertEqual(sorted(found), sorted(["FoundError"] + list(ATTRIBUTES) + OTHERS))
        self.assertEqual(len(found), 42)

    def test_each_is_directly_below_found_error(self):
        self.assertEqual(errors.FoundError.__bases__, (ValueError,))
        for name in list(ATTRIBUTES) + OTHERS:
            self.assertEqual(getattr(errors, name).__bases__, (errors.FoundError,), name)
            self.assertEqual(getattr(errors, name).__module__, "oncefound.errors")

    def test_attributes_by_position_and_by_name(self):
        for name, attributes in ATTRIBUTES.items():
            for values in ((3, 4), (0, 0), ((2, 3), (1,))):
                named = dict(zip(attributes, values))
                for made in (getattr(errors, name)(*named.values()), getattr(errors, name)(**named)):
                    self.assertEqual({key: getattr(made, key) for key in attributes}, named)
                    self.assertIsInstance(made, ValueError)
                    self.assertIsInstance(str(made), str)

    def test_attributes_are_asked_for(self):
        for name in ATTRIBUTES:
            with self.assertRaises(TypeError):
                getattr(errors, name)()

    def test_the_others_are_made_of_any_text(self):
        for name in OTHERS + ["FoundError"]:
            for text in ("", "any text", "two\nlines"):
                made = getattr(errors, name)(text)
                self.assertEqual(str(made), text)
                self.assertEqual(vars(made), {})

    def test_found_error_catches_all(self):
        with self.assertRaises(errors.FoundError):
            Table("no kinds", ())
        with self.assertRaises(ValueError):
            Table((2,), "no rows")

    def test_errors_are_equal_to_no_other_value(self):
        for name in OTHERS:
            made = getattr(errors, name)("x")
            for value in (None, "x", ("x",), 0, getattr(errors, name)("x")):
                self.assertFalse(made == value)


if __name__ == "__main__":
    unittest.main()
