import unittest

from rimohms import errors
from rimohms.errors import MoveError, NetError, RatioError, RimError, TableError, TextError


class Errors(unittest.TestCase):
    def test_base(self):
        self.assertEqual(RimError.__bases__, (ValueError,))

    def test_others(self):
        for kind in (RatioError, NetError, MoveError, TableError, TextError):
            self.assertEqual(kind.__bases__, (RimError,))
            self.assertTrue(issubclass(kind, ValueError))

    def test_defined_there(self):
        for kind in (RimError, RatioError, NetError, MoveError, TableError, TextError):
            self.assertEqual(kind.__module__, "rimohms.errors")
            self.assertIs(getattr(errors, kind.__name__), kind)

    def test_raised(self):
        for kind in (RimError, RatioError, NetError, MoveError, TableError):
            with self.assertRaises(RimError):
                raise kind("why")

    def test_line(self):
        self.assertEqual(TextError(1).line, 1)
        self.assertEqual(TextError(12, "why").line, 12)
        self.assertIn("12", str(TextError(12, "why")))


if __name__ == "__main__":
    unittest.main()
