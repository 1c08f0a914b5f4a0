import unittest

from dykelengths.chains import chain, chain_of_acre, shows_chain
from dykelengths.errors import NoInch
from dykelengths.lands import words
from dykelengths.rolls import roll_of
from tests.helper import HOUSES, LAYING, SMALL, Acres, listed, made_rolls, nested, put, shape, things, untouched

ROWS = (
    ("part", "pa", 1, "east", (("n", "ann", 10), ("s", "cid", 20))),
    ("forfeit", "idle", 2, "n", "ann"),
    ("join", "jo", 3, ("n", "west"), "big"),
    ("mend", "me", 4, "ann", "bob"),
    ("measure", "ms", 5, "east", 3),
    ("forfeit", "fo", 6, "big", "zed"),
    ("part", "pb", 7, "big", (("n", "ann", 12), ("west", "bob", 18))),
)
ROLL = roll_of(LAYING, ROWS)
FIRST = [(None, "east", "ann")]


class OfAcres(unittest.TestCase):
    def test_at_every_number_of_rows(self):
        whole = FIRST + [("pa", "n", "ann"), ("jo", "big", "ann"), ("fo", "big", "zed"), ("pb", "n", "ann")]
        for at, many in enumerate((1, 2, 2, 3, 3, 3, 4, 5)):
            for acre in (0, 9):
                told = untouched(self, chain_of_acre, ROLL, at, "east", acre)
                self.assertEqual(shape(told), shape(whole[:many]))

    def test_acres_that_later_rows_did_not_touch(self):
        whole = FIRST + [("pa", "s", "cid")]
        for at in range(8):
            for acre in (10, 29):
                self.assertEqual(chain_of_acre(ROLL, at, "east", acre), whole[:at + 1])
            self.assertEqual(chain_of_acre(ROLL, at, "mid", 6), [(None, "mid", "bob")])

    def test_another_field_of_a_joined_land(self):
        whole = [(None, "west", "ann"), ("jo", "big", "ann"), ("fo", "big", "zed")]
        self.assertEqual(chain_of_acre(ROLL, 7, "west", 1), whole + [("pb", "n", "ann")])
        self.assertEqual(chain_of_acre(ROLL, 7, "west", 2), whole + [("pb", "west", "bob")])
        self.assertEqual(chain_of_acre(ROLL, 2, "west", 2), whole[:1])

    def test_rows_that_keep_land_and_house_are_there(self):
        rows = (("part", "a", 0, "east", (("east", "ann", 1), ("x", "ann", 29))), ("join", "b", 1, ("east", "x"), "east"))
        roll = roll_of(LAYING, rows)
        self.assertEqual(chain_of_acre(roll, 2, "east", 0), FIRST + [("a", "east", "ann"), ("b", "east", "ann")])

    def test_a_land_called_as_a_field_that_the_acre_was_of(self):
        rows = (("part", "a", 0, "east", (("n", "ann", 10), ("s", "cid", 20))),
                ("part", "b", 1, "mid", (("east", "dan", 3), ("m", "dan", 4))), ("forfeit", "c", 2, "east", "eve"))
        roll = roll_of(LAYING, rows)
        self.assertEqual(words(roll), ["done"] * 3)
        self.assertEqual(chain_of_acre(roll, 3, "east", 0), FIRST + [("a", "n", "ann")])
        self.assertEqual(chain_of_acre(roll, 3, "mid", 0),
                         [(None, "mid", "bob"), ("b", "east", "dan"), ("c", "east", "eve")])

    def test_against_counting_acre_by_acre(self):
        for roll in made_rolls(45):
            dyke = Acres(SMALL)
            for at in range(41):
                for field, acre in dyke.acres:
                    if at % 8 == 0 or at % 13 == acre:
                        self.assertEqual(chain_of_acre(roll, at, field, acre), dyke.story[field, acre])
                if at < 40:
                    dyke.do(roll[1][at])

    def test_idle_rows_are_in_no_chain(self):
        for roll in made_rolls(30):
            done = [row[1] for row, word in zip(roll[1], words(roll)) if word == "done"]
            for field, _, acres, _ in SMALL:
                for acre in range(acres):
                    names = [link[0] for link in chain_of_acre(roll, 40, field, acre)[1:]]
                    self.assertEqual(names, [name for name in done if name in names])

    def test_what_was_told_is_the_askers_own(self):
        for ask in (lambda: chain_of_acre(ROLL, 7, "east", 0), lambda: chain(ROLL, 7, "east", 0)):
            first, kept = ask(), list(ask())
            first.clear()
            self.assertEqual(ask(), kept)


class OfInches(unittest.TestCase):
    def test_which_acre_bears_an_inch(self):
        # Six hundred inches over thirty acres: twenty each; three of them: acres 0, 10, 20.
        self.assertEqual(chain(ROLL, 1, "east", 199), chain_of_acre(ROLL, 1, "east", 9))
        self.assertEqual(chain(ROLL, 1, "east", 200), chain_of_acre(ROLL, 1, "east", 10))
        self.assertNotEqual(chain(ROLL, 1, "east", 199), chain(ROLL, 1, "east", 200))
        self.assertEqual([chain(ROLL, 7, "east", inch)[-1][1] for inch in range(3)], ["n", "s", "s"])
        self.assertEqual(shape(untouched(self, chain, ROLL, 0, "east", 0)), shape(FIRST))

    def test_against_counting(self):
        for roll in made_rolls(20):
            dyke = Acres(SMALL)
            for at in range(41):
                for field, inches in dyke.inches.items():
                    for inch in range(inches):
                        told = chain(roll, at, field, inch)
                        self.assertEqual(told, dyke.story[field, dyke.bearer(field, inch)])
                if at < 40:
                    dyke.do(roll[1][at])

    def test_inches_that_are_not_there(self):
        for at, field, inches in ((0, "east", 600), (4, "east", 600), (5, "east", 3), (7, "east", 3), (7, "west", 100),
                                  (0, "mid", 0)):
            if inches:
                chain(ROLL, at, field, inches - 1)
            for inch in (inches, inches + 1, -1, -inches - 1, 10 ** 59, -(10 ** 59)):
                with self.assertRaises(NoInch, msg=(at, field, inch)):
                    untouched(self, chain, ROLL, at, field, inch)

    def test_many_acres_and_inches_at_once(self):
        laying = (("east", "ann", 10 ** 6, 10 ** 7),)
        roll = roll_of(laying, [("part", "a", 0, "east", [("n", "ann", 333333), ("s", "bob", 666667)])])
        for _ in range(500):
            self.assertEqual(chain(roll, 1, "east", 3333329)[-1], ("a", "n", "ann"))
            self.assertEqual(chain(roll, 1, "east", 3333330)[-1], ("a", "s", "bob"))

    def test_acres_and_inches_of_sixty_figures(self):
        huge = 10 ** 59
        rows = (("part", "a", 0, "east", (("n", "ann", huge), ("s", "bob", huge))),)
        roll = ((("east", "ann", 2 * huge, 3 * huge),), rows)
        middle = 3 * huge // 2
        self.assertEqual(chain(roll, 1, "east", middle - 1), FIRST + [("a", "n", "ann")])
        self.assertEqual(chain(roll, 1, "east", middle), FIRST + [("a", "s", "bob")])
        self.assertIs(shows_chain(roll, 1, "east", middle, "bob", FIRST + [("a", "s", "bob")]), True)
        with self.assertRaises(NoInch):
            chain(roll, 1, "east", 3 * huge)


class Shows(unittest.TestCase):
    def shown(self, at, inch, house, thing, field="east"):
        told = untouched(self, shows_chain, ROLL, at, field, inch, house, thing)
        self.assertIn(shape(told), (shape(True), shape(False)))
        return told

    def test_the_chain_and_its_last_house_alone(self):
        for at in range(8):
            for inch in range(3):
                links = chain(ROLL, at, "east", inch)
                for house in ("ann", "bob", "cid", "zed", "eve"):
                    self.assertIs(self.shown(at, inch, house, links), house == links[-1][2])

    def test_whatever_house(self):
        links = chain(ROLL, 7, "east", 0)
        for house in things() + [["ann"], ("ann",), {"ann": "ann"}]:
            self.assertIs(self.shown(7, 0, house, links), False, repr(house)[:40])

    def test_chains_bent_at_some_place(self):
        links = chain(ROLL, 7, "east", 0)
        self.assertIs(self.shown(7, 0, "ann", links), True)
        for at, link in enumerate(links):
            bent = [links[:at] + links[at + 1:], links[:at] + [link] + links[at:], links[:at], links[at + 1:]]
            for place in range(3):
                for thing in things() + ["other", "ann", "big", "jo"]:
                    if thing != link[place]:
                        bent.append(links[:at] + [put(link, place, thing)] + links[at + 1:])
            for thing in things() + [list(link), link + (None,), link[:2]]:
                bent.append(links[:at] + [thing] + links[at + 1:])
            for thing in bent:
                self.assertIs(self.shown(7, 0, "ann", thing), False, repr(thing)[:80])
        for thing in (links[::-1], links + links, links + [None], links + [()]):
            self.assertIs(self.shown(7, 0, "ann", thing), False)

    def test_chains_of_other_moments_and_inches(self):
        kept = chain(ROLL, 7, "east", 0)
        for at in range(7):
            self.assertIs(self.shown(at, 0, "ann", kept), False)
        self.assertIs(self.shown(7, 1, "ann", kept), False)
        self.assertIs(self.shown(7, 1, "cid", kept), False)
        self.assertIs(self.shown(7, 0, "ann", kept, "west"), False)

    def test_an_inch_that_is_not_there(self):
        for at, inch in ((0, 600), (0, -1), (7, 3), (7, -1), (7, 10 ** 59)):
            for thing in (chain(ROLL, at, "east", 0), FIRST, [], None):
                self.assertIs(self.shown(at, inch, "ann", thing), False)
        self.assertIs(self.shown(0, 0, "bob", [(None, "mid", "bob")], "mid"), False)

    def test_whatever_thing(self):
        links = chain(ROLL, 7, "east", 0)
        alike = [tuple(links), listed(tuple(links)), {0: links}, [links], (links,), dict(enumerate(links)), links[-1]]
        for thing in things() + alike + [nested(list, 60), [nested(tuple, 59)]]:
            self.assertIs(self.shown(7, 0, "ann", thing), False, repr(thing)[:80])
            self.assertIs(self.shown(0, 0, "ann", thing), False, repr(thing)[:80])

    def test_every_inch_at_every_moment(self):
        for roll in made_rolls(6):
            dyke = Acres(SMALL)
            for at in range(41):
                for field, inches in dyke.inches.items():
                    for inch in range(inches):
                        links = list(dyke.story[field, dyke.bearer(field, inch)])
                        for house in HOUSES:
                            told = shows_chain(roll, at, field, inch, house, links)
                            self.assertIs(told, house == links[-1][2])
                    self.assertIs(shows_chain(roll, at, field, inches, "ann", dyke.story[field, 0]), False)
                if at < 40:
                    dyke.do(roll[1][at])
