"""The errors and their classes."""

import unittest

from listpost import errors

NAMES = ["BadBook", "BadRow", "BadText", "BadName", "BadNames", "NoList", "NoMember", "NotFresh", "NotPlain", "Twice",
         "NoOne", "NoLetter", "NotHeld"]


class ErrorsTest(unittest.TestCase):
    def test_post_error_is_straight_under_value_error(self):
        self.assertEqual(errors.PostError.__bases__, (ValueError,))

    def test_each_is_straight_under_post_error(self):
        for name in NAMES:
            with self.subTest(name=name):
                self.assertEqual(getattr(errors, name).__bases__, (errors.PostError,))

    def test_row(self):
        for kind in (errors.BadBook, errors.BadRow):
            for row in (0, 1, 17):
                with self.subTest(kind=kind, row=row):
                    with self.assertRaises(errors.PostError) as caught:
                        raise kind(row)
                    self.assertEqual(caught.exception.row, row)
                    self.assertIn(str(row), str(caught.exception))

    def test_others_take_words(self):
        for name in NAMES[2:]:
            with self.subTest(name=name):
                self.assertEqual(str(getattr(errors, name)("words")), "words")


if __name__ == "__main__":
    unittest.main()
