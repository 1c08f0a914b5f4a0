import unittest

from dykelengths.rolls import roll_of
from dykelengths.texts import deed_text, roll_text, row_text
from tests.helper import LAYING, PART, ROWS, alones, letters, untouched

LINES = (
    "part pa 5 east north ann 10 south cid 20",
    "join jo 5 east west as big",
    "forfeit fo 5 east bob",
    "measure me 5 east 700",
    "mend mend 5 ann bob",
    "alone al 5 ann",
    "breach br 5 east 3 1000 20",
    "view vi 5 west 3 ann",
)
FIELDS = "field east ann 30 600\nfield mid bob 7 0\nfield west ann 20 100"


class RowText(unittest.TestCase):
    def test_each_form(self):
        for row, line in zip(ROWS, LINES, strict=True):
            self.assertEqual(untouched(self, row_text, row), line)

    def test_the_documents_own(self):
        self.assertEqual(row_text(("part", "a", 7, "big", (("n", "ann", 10), ("s", "bob", 20)))),
                         "part a 7 big n ann 10 s bob 20")
        self.assertEqual(row_text(("join", "b", 9, ("n", "s"), "big")), "join b 9 n s as big")

    def test_names_like_words(self):
        self.assertEqual(row_text(("join", "as", 0, ("as", "with"), "part")), "join as 0 as with as part")
        self.assertEqual(row_text(("join", "join", 0, ("part", "with"), "as")), "join join 0 part with as as")
        self.assertEqual(row_text(("part", "part", 0, "part", (("as", "with", 1), ("part", "part", 2)))),
                         "part part 0 part as with 1 part part 2")
        self.assertEqual(row_text(("mend", "with", 0, "as", "part")), "mend with 0 as part")

    def test_noughts_and_the_greatest(self):
        self.assertEqual(row_text(("measure", "a", 0, "b", 0)), "measure a 0 b 0")
        self.assertEqual(row_text(("measure", "a", 9999, "b", 10 ** 7)), "measure a 9999 b 10000000")
        self.assertEqual(row_text(("breach", "a", 0, "b", 0, 0, 0)), "breach a 0 b 0 0 0")
        self.assertEqual(row_text(("breach", "a", 9999, "b", 9999999, 10 ** 9, 10 ** 6)),
                         "breach a 9999 b 9999999 1000000000 1000000")
        self.assertEqual(row_text(("view", "a", 9999, "b", 9999999, "c")), "view a 9999 b 9999999 c")
        self.assertEqual(row_text(("part", "a", 0, "b", (("c", "d", 1), ("e", "f", 10 ** 7)))),
                         "part a 0 b c d 1 e f 10000000")

    def test_six_parts_and_lands(self):
        parts = tuple((letter, "ann", 1) for letter in "bcdefg")
        self.assertEqual(row_text(("part", "a", 1, "b", parts)),
                         "part a 1 b b ann 1 c ann 1 d ann 1 e ann 1 f ann 1 g ann 1")
        self.assertEqual(row_text(("join", "a", 1, tuple("bcdefg"), "b")), "join a 1 b c d e f g as b")


class RollText(unittest.TestCase):
    def test_without_rows(self):
        self.assertEqual(untouched(self, roll_text, (LAYING, ())), FIELDS)
        self.assertEqual(roll_text(((("field", "as", 10 ** 6, 10 ** 7),), ())), "field field as 1000000 10000000")

    def test_eight_fields(self):
        laying = tuple((letters(number), "ann", 1, number) for number in range(8))
        self.assertEqual(roll_text((laying, ())), "\n".join(f"field {letters(n)} ann 1 {n}" for n in range(8)))

    def test_rows_in_their_order(self):
        told = untouched(self, roll_text, roll_of(LAYING, ROWS))
        lines = [LINES[at] for at in (3, 2, 1, 0, 5, 4, 6, 7)]
        self.assertEqual(told, "\n".join([FIELDS] + lines))

    def test_forty_rows(self):
        told = roll_text(roll_of(LAYING, alones(40)))
        self.assertEqual(told.split("\n"), FIELDS.split("\n") + [f"alone {letters(n)} 3 ann" for n in range(40)])


class DeedText(unittest.TestCase):
    def test_write(self):
        for row, line in zip(ROWS, LINES, strict=True):
            self.assertEqual(untouched(self, deed_text, ("write", row)), "write " + line)
        self.assertEqual(deed_text(("write", PART)), "write part pa 5 east north ann 10 south cid 20")

    def test_back(self):
        for name in ("pa", "as", "write", "back", "eightsig"):
            self.assertEqual(deed_text(("back", name)), "back " + name)
