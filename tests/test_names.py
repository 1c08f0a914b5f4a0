import unittest

from dykelengths.names import is_name
from tests.helper import things


class Names(unittest.TestCase):
    def test_one_to_eight_small_letters(self):
        for text in ("a", "z", "az", "abcdefgh", "zzzzzzzz", "part", "as", "none"):
            self.assertIs(is_name(text), True, text)

    def test_too_short_and_too_long(self):
        for text in ("", "abcdefghi", "a" * 20000):
            self.assertIs(is_name(text), False, text[:10])

    def test_other_signs_at_any_place(self):
        for code in list(range(32, 127)) + [10]:
            sign = chr(code)
            for at in range(8):
                text = "a" * at + sign + "z" * (7 - at)
                self.assertIs(is_name(text), "a" <= sign <= "z", repr(text))
            self.assertIs(is_name(sign), "a" <= sign <= "z", repr(sign))

    def test_signs_beside_the_small_letters(self):
        for text in ("`", "{", "a`", "{a", "a\n", "\na", " a", "a "):
            self.assertIs(is_name(text), False, repr(text))

    def test_whatever_thing(self):
        for thing in things() + [["a"], ("a",), {"a": "a"}]:
            self.assertIs(is_name(thing), False, repr(thing)[:40])
