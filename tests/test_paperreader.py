import unittest

from dykelengths.chains import chain
from dykelengths.errors import NoInch, NoText
from dykelengths.paperreader import read_calling, read_chain, read_names
from dykelengths.papertexts import calling_text, chain_text, names_text
from tests.helper import letters, made_rolls, shape, things, untouched


class Case(unittest.TestCase):
    def refuses(self, deed, *texts):
        for text in texts:
            with self.assertRaises(NoText) as caught:
                untouched(self, deed, text)
            self.assertEqual(shape(caught.exception.line), shape(0))

    def reads(self, deed, write, *papers):
        for paper in papers:
            self.assertEqual(shape(deed(write(paper))), shape(paper))

    def reads_or_refuses(self, deed, write, text):
        try:
            told = deed(text)
        except NoText as error:
            self.assertEqual(shape(error.line), shape(0))
        else:
            self.assertEqual(write(told), text)


class ReadChain(Case):
    def test_what_is_so_written(self):
        self.reads(read_chain, chain_text,
                   [(None, "a", "b")],
                   [(None, "east", "ann"), ("a", "north", "ann"), ("b", "north", "bob")],
                   [(None, "eightsig", "eightsig")] + [("eightsig", "eightsig", "eightsig")] * 40)

    def test_chains_that_are_told(self):
        for roll in made_rolls(6):
            for field, _, _, _ in roll[0]:
                for inch in range(12):
                    try:
                        told = chain(roll, 40, field, inch)
                    except NoInch:
                        continue
                    self.reads(read_chain, chain_text, told)

    def test_what_is_no_text(self):
        self.refuses(read_chain, *things())
        self.refuses(read_chain, [(None, "a", "b")])

    def test_refused(self):
        self.refuses(
            read_chain,
            "", ".", " ", "-", "-:", "-:a", "-:a:b:c", "-:a:", "-::b", ":a:b", "a:a:b", "-:a:-", "-:-:b", "--:a:b",
            "None:a:b", "-:A:b", "-:a:ninesigns", "-:a:1", "-:a:b ", " -:a:b", "-:a:b\n", "-:a:b  c:d:e",
            "-:a:b -:d:e", "-:a:b c:d:e -:d:e", "c:d:e -:a:b", "-:a:b c:d", "-:a:b c:d:e:f", "-:a:b C:d:e", "-:a:b :d:e",
            "-:a:b .", ". -:a:b", "-:A:b c:d:e", "-:a:B c:d:e", "-:a:- c:d:e",
            "-:a:b\tc:d:e", "-:a:b,c:d:e", "-:a:b\nc:d:e", "-:a:b c:d:-", "-:a:b c::e",
        )


class ReadCalling(Case):
    def test_what_is_so_written(self):
        self.reads(read_calling, calling_text,
                   [],
                   [("a", "b", 1)],
                   [("a", "b", 9), ("a", "c", 1), ("b", "a", 10 ** 59), ("b", "b", 10 ** 60 - 1)],
                   [(letters(number), "b", number + 1) for number in range(2000)])

    def test_what_is_no_text(self):
        self.refuses(read_calling, *things())
        self.refuses(read_calling, [("a", "b", 1)])

    def test_refused(self):
        self.refuses(
            read_calling,
            "", " ", "..", ". ", ". .", "a:b", "a:b:", "a:b:c", "a:b:0", "a:b:-1", "a:b:+1", "a:b:01", "a:b:1:", ":a:b:1",
            "a:b:1 ", " a:b:1", "a:b:1\n", "a:b:1  b:b:1", "a:b:1 .", "A:b:1", "a:B:1", "a::1", ":b:1", "a:ninesigns:1",
            "-:b:1", "b:b:1 a:b:1", "a:c:1 a:b:2", "a:b:1 a:b:1", "a:b:1 a:b:2", "a:b:2 a:b:1", "a:b:1 b:a:1 a:b:1",
            "a:b:1" + "0" * 60, "a:b:" + "9" * 61, "a:b:1" + "0" * 9000, "a:b:1 b:a", "a:b:1,b:b:1", "a:b:1.0", "1:a:b",
        )

    def test_sixty_figures(self):
        self.assertEqual(read_calling("a:b:" + "9" * 60), [("a", "b", 10 ** 60 - 1)])
        self.refuses(read_calling, "a:b:" + "9" * 61)


class ReadNames(Case):
    def test_what_is_so_written(self):
        self.reads(read_names, names_text, [], ["a"], ["a", "ab", "b"], ["as", "none", "with"],
                   [letters(number) for number in range(2000)])

    def test_what_is_no_text(self):
        self.refuses(read_names, *[thing for thing in things() if thing != "two words"])
        self.refuses(read_names, ["a"])

    def test_refused(self):
        self.refuses(
            read_names,
            "", " ", "..", ". ", "a ", " a", "a  b", "a\n", "a\nb", "b a", "a a", "a b a", "a b b", "A", "a B", "1", "a .",
            ". a", "ninesigns", "a:b", "a,b", "-", "a b c d f e",
        )


class Both(Case):
    def test_a_little_otherwise(self):
        for text in ("-:a:b c:d:e", "a:b:12 c:d:3", "a b c", ".", "-:a:b", "a:b:1"):
            for at in range(len(text) + 1):
                for sign in " :.-aZ019+\n":
                    for other in (text[:at] + sign + text[at:], text[:at] + sign + text[at + 1:], text[:at] + text[at + 1:]):
                        self.reads_or_refuses(read_chain, chain_text, other)
                        self.reads_or_refuses(read_calling, calling_text, other)
                        self.reads_or_refuses(read_names, names_text, other)

    def test_what_was_told_is_the_askers(self):
        for deed, text in ((read_chain, "-:a:b"), (read_calling, "a:b:1"), (read_names, "a b"), (read_names, ".")):
            told = deed(text)
            kept = list(told)
            told.append(None)
            self.assertEqual(deed(text), kept)
