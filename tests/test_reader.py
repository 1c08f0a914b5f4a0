import unittest
from random import Random

from dykelengths.errors import NoText
from dykelengths.reader import read_deed, read_roll, read_row
from dykelengths.rolls import roll_of
from dykelengths.rows import is_row
from dykelengths.texts import deed_text, roll_text, row_text
from tests.helper import LAYING, ROWS, alones, letters, made_deeds, made_rolls, made_rows, shape, things, untouched

FIELDS = "field east ann 30 600\nfield mid bob 7 0\nfield west ann 20 100"
EDGES = (
    ("join", "as", 0, ("as", "with"), "part"),
    ("join", "join", 9999, ("a", "b", "c", "d", "e", "f"), "as"),
    ("part", "part", 0, "part", (("as", "with", 1), ("part", "part", 10 ** 7))),
    ("part", "a", 0, "b", tuple((letter, "ann", 1) for letter in "bcdefg")),
    ("mend", "with", 0, "as", "part"),
    ("measure", "a", 9999, "b", 10 ** 7),
    ("measure", "a", 0, "b", 0),
    ("breach", "a", 9999, "b", 9999999, 10 ** 9, 10 ** 6),
    ("breach", "a", 0, "b", 0, 0, 0),
    ("view", "view", 0, "field", 9999999, "back"),
    ("alone", "write", 10, "eightsig"),
    ("forfeit", "field", 100, "field", "field"),
)


def edits(text):
    """Texts that are a little other than this one."""
    told = [text + "\n", "\n" + text, text + " ", " " + text, text.replace(" ", "  "), text.replace(" ", "\t")]
    told += [text.replace(" ", "\n"), text.upper(), text.title(), text + text, text[:-1], text[1:], text + "a"]
    words = text.split(" ")
    for at in range(len(words)):
        ahead, word, behind = words[:at], words[at], words[at + 1:]
        for new in ("", "0" + word, "+" + word, "-" + word, word + "0", word + "a", word + "-", word + ".", word[:-1],
                    "0", "00", "1", "9", "-1", "1000000001", "as", "z", "a", word.upper(), word + "\n", "9" * 60,
                    "9" * 61, "1" + "0" * 5000, "part", "alone", "x" * 8, "x" * 9, "1_0", "1 ", "1.0", "1e3"):
            told.append(" ".join(ahead + [new] + behind))
            told.append(" ".join(ahead + [new, word] + behind))
        told.append(" ".join(ahead + behind))
        told.append(" ".join(ahead + [word, "", ] + behind))
        told.append(" ".join(ahead + behind[:1] + [word] + behind[1:]))
    return told


class Case(unittest.TestCase):
    def refuses(self, deed, text, line=0):
        with self.assertRaises(NoText) as caught:
            deed(text)
        self.assertEqual(shape(caught.exception.line), shape(line))

    def reads_or_refuses(self, deed, write, text):
        """Whatever is read is written just so; all else is refused, at line 0."""
        try:
            told = deed(text)
        except NoText as error:
            self.assertEqual(shape(error.line), shape(0))
            return 0
        self.assertEqual(write(told), text)
        return 1


class ReadRow(Case):
    def test_each_form(self):
        for row in ROWS + EDGES:
            self.assertTrue(is_row(row))
            self.assertEqual(shape(read_row(row_text(row))), shape(row))

    def test_many(self):
        for seed in range(12):
            for row in made_rows(seed):
                self.assertEqual(shape(read_row(row_text(row))), shape(row))

    def test_whatever_fields(self):
        self.assertEqual(read_row("breach a 1 nowhere 2 3 4"), ("breach", "a", 1, "nowhere", 2, 3, 4))

    def test_what_is_no_text(self):
        for thing in things():
            self.refuses(read_row, thing)
        for row in ROWS:
            self.refuses(read_row, row)

    def test_a_little_otherwise(self):
        many = 0
        for row in ROWS + EDGES:
            for text in edits(row_text(row)):
                many += self.reads_or_refuses(read_row, row_text, text)
        self.assertGreater(many, 100)

    def test_refused(self):
        for text in (
            "", " ", ".", "part", "join", "alone", "alone a", "alone a 1", "alone a 1 b c", "alone  1 b",
            "alone a 1  b", "alone a 1 b ", " alone a 1 b", "alone a 1 b\n", "alone a 01 b", "alone a 00 b",
            "alone a +1 b", "alone a -1 b", "alone a 10000 b", "alone a 1 B", "alone A 1 b", "Alone a 1 b",
            "alone a 1 ninesigns", "alone ninesigns 1 b", "alone a one b", "alone 1 a b", "alone a\t1 b",
            "alone a " + "9" * 60 + " b", "alone a " + "1" * 61 + " b", "alone a 1" + "0" * 10000 + " b",
            "part a 1 b", "part a 1 b c ann 1", "part a 1 b c ann 1 d", "part a 1 b c ann 1 d bob",
            "part a 1 b d ann 1 c bob 1", "part a 1 b c ann 1 c bob 1", "part a 1 b c ann 0 d bob 1",
            "part a 1 b c ann 10000001 d bob 1", "part a 1 b c ann 1 d bob 01", "part a 1 b c ann 1 d bob 1 e",
            "part a 1 b" + "".join(f" {letter} ann 1" for letter in "bcdefgh"), "part a 1 b c 1 ann d 1 bob",
            "join a 1 b c d", "join a 1 b c as", "join a 1 b as d", "join a 1 as d", "join a 1 as", "join a as d",
            "join a 1 c b as d", "join a 1 b b as d", "join a 1 b c d e f g h as d", "join a 1 b as c d",
            "join a 1 b c As d", "join a 1 b c as d e", "join a 1 b c as D", "join as 1 b c d",
            "forfeit a 1 b", "forfeit a 1 b c d", "forfeit a 1 b 3", "forfeit a b c d",
            "measure a 1 b", "measure a 1 b c", "measure a 1 b 10000001", "measure a 1 b 1 1", "measure a 1 b -1",
            "mend a 1 b", "mend a 1 b b", "mend a 1 b c d", "mend a 1 b 1",
            "breach a 1 b 1 1", "breach a 1 b 10000000 1 1", "breach a 1 b 1 1000000001 1", "breach a 1 b 1 1 1000001",
            "breach a 1 b 1 1 1 1", "breach a 1 b 1 01 1", "breach a 1 1 1 1 1",
            "view a 1 b 1", "view a 1 b c 1", "view a 1 b 10000000 c", "view a 1 b 1 c d", "view a 1 b 00 c",
            "field a b 1 1", "write alone a 1 b", "back a", "other a 1 b", "1 a 1 b",
        ):
            self.refuses(read_row, text)


class ReadDeed(Case):
    def test_what_is_so_written(self):
        for row in ROWS + EDGES:
            self.assertEqual(shape(read_deed(deed_text(("write", row)))), shape(("write", row)))
        for name in ("a", "write", "back", "as", "eightsig"):
            self.assertEqual(shape(read_deed("back " + name)), shape(("back", name)))

    def test_many(self):
        for seed in range(6):
            for deed in made_deeds(seed):
                self.assertEqual(shape(read_deed(deed_text(deed))), shape(deed))

    def test_whatever_fields(self):
        self.assertEqual(read_deed("write measure a 1 nowhere 2"), ("write", ("measure", "a", 1, "nowhere", 2)))

    def test_what_is_no_text(self):
        for thing in things():
            self.refuses(read_deed, thing)
        self.refuses(read_deed, ("back", "a"))

    def test_a_little_otherwise(self):
        many = 0
        for deed in [("write", row) for row in ROWS] + [("back", "a"), ("back", "eightsig")]:
            for text in edits(deed_text(deed)):
                many += self.reads_or_refuses(read_deed, deed_text, text)
        self.assertGreater(many, 50)

    def test_refused(self):
        for text in ("", "write", "back", "write ", "back ", "back A", "back a b", "back  a", "back a ", " back a",
                     "back a\n", "back ninesigns", "back 1", "write alone a 1", "write  alone a 1 b", "write alone a 1 b ",
                     "write write alone a 1 b", "write back a", "alone a 1 b", "Write alone a 1 b", "Back a",
                     "write alone a 1 b\nback a", "writealone a 1 b", "backa"):
            self.refuses(read_deed, text)


class ReadRoll(Case):
    def test_what_is_so_written(self):
        for roll in [(LAYING, ()), roll_of(LAYING, ROWS), roll_of(LAYING, alones(40))] + made_rolls(12):
            self.assertEqual(shape(untouched(self, read_roll, roll_text(roll))), shape(roll))

    def test_each_edge(self):
        laying = [("b", "ann", 1, 0), ("field", "as", 10 ** 6, 10 ** 7)]
        for row in EDGES:
            roll = roll_of(laying, [row])
            self.assertEqual(shape(read_roll(roll_text(roll))), shape(roll))

    def test_what_is_no_text(self):
        for thing in things():
            self.refuses(read_roll, thing)
        self.refuses(read_roll, (LAYING, ()))

    def test_no_field_at_first(self):
        for text in ("", " ", "\n", "alone a 1 b", "alone a 1 b\nfield a b 1 1", "\nfield a b 1 1", "field", "field ",
                     " field a b 1 1", "fields a b 1 1", "Field a b 1 1"):
            self.refuses(read_roll, text)

    def test_lines_of_fields(self):
        for line in ("field far ann 0 1", "field far ann 1000001 1", "field far ann 1 10000001", "field far ann 1",
                     "field far ann 1 1 1", "field far ann 1 -1", "field far ann 01 1", "field far ann 1 00",
                     "field Far ann 1 1", "field far 1 1 1", "field  ann 1 1", "field far ann 1 1 ", "field far  ann 1 1",
                     " field far ann 1 1", "field farfarfar ann 1 1", "field far ann 1 +1", "field far ann +1 1",
                     "field far ann 1 " + "1" * 5000, "field far ann one 1", "", "field", "far ann 1 1", "field east ann 1 1"):
            self.refuses(read_roll, f"{FIELDS}\n{line}", 3)
            self.refuses(read_roll, f"{FIELDS}\n{line}\n{line}", 3)
            self.refuses(read_roll, f"{FIELDS}\n{line}\nalone a 1 b\n", 3)

    def test_a_ninth_field(self):
        lines = [f"field {letters(number)} ann 1 1" for number in range(9)]
        self.assertEqual(len(read_roll("\n".join(lines[:8]))[0]), 8)
        self.refuses(read_roll, "\n".join(lines), 8)
        self.refuses(read_roll, "\n".join(lines[:8] + ["alone a 1 b"] + lines[8:]), 9)

    def test_a_field_behind_a_row(self):
        self.refuses(read_roll, f"{FIELDS}\nalone a 1 b\nfield far ann 1 1", 4)
        self.refuses(read_roll, f"{FIELDS}\nalone a 1 b\nalone b 1 b\nfield far ann 1 1\n", 5)

    def test_lines_of_rows(self):
        for line in ("measure a 1 far 1", "breach a 1 far 1 1 1", "view a 1 far 1 ann", "alone a 1", "alone a 01 b", "",
                     " alone a 1 b", "alone a 1 b ", "alone a  1 b", "mend a 1 b b", "join a 1 west east as big",
                     "part a 1 east d ann 15 c bob 15", "breach a 1 east 10000000 1 1", "back a", "write alone a 1 b",
                     "join a 1 east west big", "measure a 10000 east 1"):
            self.refuses(read_roll, f"{FIELDS}\n{line}", 3)
            self.refuses(read_roll, f"{FIELDS}\nalone z 0 b\n{line}\nfield east ann 1 1", 4)

    def test_rows_out_of_order(self):
        order = [
            "measure m 1 east 3", "measure n 1 mid 3", "forfeit a 1 x y", "join b 1 x y as z",
            "part d 1 x y z 1 z a 2", "alone c 1 b", "mend e 1 a b", "breach f 1 east 1 1 1", "view g 1 east 1 a",
            "measure h 2 east 3", "view i 2 mid 3 b", "alone j 3 b",
        ]
        self.assertEqual(len(read_roll("\n".join([FIELDS] + order))[1]), len(order))
        for at in range(len(order) - 1):
            turned = order[:at] + [order[at + 1], order[at]] + order[at + 2:]
            self.refuses(read_roll, "\n".join([FIELDS] + turned), 4 + at)
            self.refuses(read_roll, "\n".join([FIELDS] + turned + [""]), 4 + at)
            self.refuses(read_roll, "\n".join([FIELDS] + order[:at + 1] + order[at:]), 4 + at)

    def test_a_name_that_is_there(self):
        self.refuses(read_roll, f"{FIELDS}\nalone a 1 b\nalone a 1 b", 4)
        self.refuses(read_roll, f"{FIELDS}\nalone a 1 b\nalone b 1 b\nmend a 2 b c\nalone", 5)
        self.assertEqual(len(read_roll(f"{FIELDS}\nalone east 1 b\nalone mid 1 b")[1]), 2)

    def test_a_forty_first(self):
        lines = [row_text(row) for row in alones(41)]
        self.assertEqual(len(read_roll("\n".join([FIELDS] + lines[:40]))[1]), 40)
        self.refuses(read_roll, "\n".join([FIELDS] + lines), 43)
        self.refuses(read_roll, "\n".join([FIELDS] + lines[:40] + ["x"]), 43)

    def test_a_line_end_at_the_end(self):
        for many in range(4):
            text = "\n".join([FIELDS] + [row_text(row) for row in alones(many)])
            self.refuses(read_roll, text + "\n", 3 + many)
            self.refuses(read_roll, text + "\n\n", 3 + many)
        self.refuses(read_roll, "field a b 1 1\n", 1)

    def test_the_first_wrong_line(self):
        for seed, roll in enumerate(made_rolls(6) + [roll_of(LAYING, ROWS)]):
            chance = Random(seed)
            lines = roll_text(roll).split("\n")
            for at, line in enumerate(lines):
                for text in chance.sample(edits(line), 12):
                    self.first_wrong(lines[:at] + text.split("\n") + lines[at + 1:])

    def first_wrong(self, lines):
        """As many lines as make a roll are ahead of the first wrong one."""
        text = "\n".join(lines)
        try:
            told = read_roll(text)
        except NoText as error:
            self.assertIn(error.line, range(len(lines)))
            if error.line:
                self.assertEqual(roll_text(read_roll("\n".join(lines[:error.line]))), "\n".join(lines[:error.line]))
            self.refuses(read_roll, "\n".join(lines[:error.line + 1]), error.line)
        else:
            self.assertEqual(shape(told), shape(roll_of(*told)))
            self.assertEqual(roll_text(told), text)

    def test_rows_by_themselves_are_read_alike(self):
        for row in ROWS:
            self.assertEqual(read_roll(f"{FIELDS}\n{row_text(row)}")[1], (read_row(row_text(row)),))
            for word in row_text(row).split(" "):
                self.refuses(read_roll, f"{FIELDS}\n{row_text(row).replace(word, 'Bad')}", 3)
