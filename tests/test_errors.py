"""The refusals: their bases and fields."""

import unittest

from freshcells import errors

MADE_OF_TEXT = ("NoSum", "NoCell", "NoPlace", "NoText", "NoSaying", "TooMany")
MADE_OF_NUMBER = (("NoRow", "row"), ("NoDeed", "place"), ("Unready", "cell"))


class ErrorsTest(unittest.TestCase):

    def test_book_error_is_a_value_error(self):
        self.assertEqual(errors.BookError.__bases__, (ValueError,))

    def test_those_made_of_a_text_stand_straight_under_book_error(self):
        for name in MADE_OF_TEXT:
            kind = getattr(errors, name)
            self.assertEqual(kind.__bases__, (errors.BookError,), name)
            self.assertEqual(str(kind("why")), "why", name)

    def test_those_with_a_number_stand_straight_under_book_error(self):
        for name, field in MADE_OF_NUMBER:
            kind = getattr(errors, name)
            self.assertEqual(kind.__bases__, (errors.BookError,), name)
            for number in (0, 3, 12):
                self.assertEqual(vars(kind(number)), {field: number}, name)
            self.assertIsInstance(str(kind(3)), str)

    def test_no_name(self):
        self.assertEqual(errors.NoName.__bases__, (LookupError,))
        self.assertEqual(vars(errors.NoName("ab")), {"name": "ab"})

    def test_nothing(self):
        self.assertEqual(errors.Nothing.__bases__, (IndexError,))
        for way in ("undo", "redo"):
            self.assertEqual(vars(errors.Nothing(way)), {"way": way})


if __name__ == "__main__":
    unittest.main()
