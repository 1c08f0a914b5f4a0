import unittest

from dykelengths.papertexts import calling_text, chain_text, names_text, places_text
from tests.helper import untouched


class PaperTexts(unittest.TestCase):
    def test_chains(self):
        self.assertEqual(untouched(self, chain_text, [(None, "east", "ann")]), "-:east:ann")
        links = [(None, "east", "ann"), ("a", "north", "ann"), ("b", "north", "bob")]
        self.assertEqual(untouched(self, chain_text, links), "-:east:ann a:north:ann b:north:bob")

    def test_callings(self):
        self.assertEqual(untouched(self, calling_text, [("ann", "b", 1)]), "ann:b:1")
        many = 10 ** 59
        self.assertEqual(calling_text([("ann", "a", 10), ("ann", "b", many)]), f"ann:a:10 ann:b:1{'0' * 59}")

    def test_names(self):
        self.assertEqual(untouched(self, names_text, ["ann"]), "ann")
        self.assertEqual(names_text(["b", "a", "none"]), "b a none")

    def test_places(self):
        self.assertEqual(untouched(self, places_text, [0]), "0")
        self.assertEqual(places_text([0, 10, 80000000]), "0 10 80000000")

    def test_none(self):
        for write in (chain_text, calling_text, names_text, places_text):
            self.assertEqual(untouched(self, write, []), ".")
