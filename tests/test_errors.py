"""The error classes and their fields."""

import unittest

from stepwebs import errors

NAMES = (
    "BadWeb",
    "BadNet",
    "BadNumber",
    "NotPrime",
    "Unlike",
    "BadStep",
    "NoStep",
    "BadText",
    "BadLine",
)


class ErrorsTest(unittest.TestCase):
    def test_base_class(self):
        self.assertEqual(errors.WebError.__bases__, (ValueError,))

    def test_direct_subclasses(self):
        for name in NAMES:
            with self.subTest(name):
                self.assertEqual(getattr(errors, name).__bases__, (errors.WebError,))

    def test_errors_without_fields(self):
        for name in ("BadNumber", "NotPrime", "Unlike", "BadStep", "NoStep", "BadText"):
            with self.subTest(name):
                self.assertEqual(vars(getattr(errors, name)()), {})

    def test_parts(self):
        for part in ("whole", "halls", "steps"):
            self.assertEqual(vars(errors.BadWeb(part)), {"part": part})
        for part in ("whole", "halls", "ways"):
            self.assertEqual(vars(errors.BadNet(part=part)), {"part": part})

    def test_line_and_word(self):
        self.assertEqual(vars(errors.BadLine(2, 3)), {"line": 2, "word": 3})
        self.assertEqual(vars(errors.BadLine(line=4, word=1)), {"line": 4, "word": 1})


if __name__ == "__main__":
    unittest.main()
