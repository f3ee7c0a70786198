import unittest

from stonewalker import errors

PLAIN = ["NoWeb", "NoDoor", "NoStone", "TooMany", "NoMark", "NotWhole"]


class ErrorsTest(unittest.TestCase):
    def test_web_error_stands_straight_under_value_error(self):
        self.assertEqual(errors.WebError.__bases__, (ValueError,))

    def test_each_stands_straight_under_web_error(self):
        for name in PLAIN + ["Clash", "BadRow"]:
            self.assertEqual(getattr(errors, name).__bases__, (errors.WebError,), name)

    def test_plain_ones_are_made_with_words(self):
        for name in PLAIN + ["WebError"]:
            self.assertEqual(str(getattr(errors, name)("some words")), "some words", name)

    def test_clash_has_why(self):
        error = errors.Clash("some words", "taken")
        self.assertEqual((str(error), error.why), ("some words", "taken"))

    def test_bad_row_has_row(self):
        error = errors.BadRow("some words", 7)
        self.assertEqual((str(error), error.row), ("some words", 7))

    def test_none_is_taken_for_another(self):
        for name in PLAIN:
            for other in PLAIN:
                self.assertEqual(issubclass(getattr(errors, name), getattr(errors, other)), name == other)


if __name__ == "__main__":
    unittest.main()
