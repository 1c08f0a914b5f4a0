import unittest

from dykelengths import errors

NAMES = (
    "NoRow", "NoRoll", "NoName", "Twice", "TooMany", "NoBreach", "NoMend",
    "NoInch", "NoThen", "Clash", "NoField", "NoOrder", "NoText",
)


class Errors(unittest.TestCase):
    def test_each_stands_straight_under_dyke_error(self):
        self.assertEqual(errors.DykeError.__bases__, (ValueError,))
        for name in NAMES:
            self.assertEqual(getattr(errors, name).__bases__, (errors.DykeError,), name)

    def test_no_text_keeps_its_line(self):
        self.assertEqual(errors.NoText(7).line, 7)
        with self.assertRaises(errors.DykeError) as kept:
            raise errors.NoText(0)
        self.assertEqual(kept.exception.line, 0)
