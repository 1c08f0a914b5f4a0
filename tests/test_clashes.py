import unittest
from random import Random

from dykelengths.chains import chain
from dykelengths.clashes import first_clash, is_first_clash
from dykelengths.rolls import roll_of, up_to, with_row, without_row
from tests.helper import LAYING, SMALL, Acres, listed, made_rolls, made_rows, put, shape, things, untouched

BARE = roll_of(LAYING, ())
PART = ("part", "pa", 5, "east", (("n", "ann", 10), ("s", "cid", 20)))
EAST = [(None, "east", "ann")]


def roll(*rows):
    return roll_of(LAYING, rows)


def days(rows, last):
    """The dyke behind all rows up to each day."""
    dyke, left, told = Acres(SMALL), list(rows), []
    for day in range(last + 1):
        while left and left[0][2] <= day:
            dyke.do(left.pop(0))
        told.append({(field, inch): list(dyke.story[field, dyke.bearer(field, inch)])
                     for field, inch, _, _ in dyke.walk()})
    return told


def walked(one, other):
    """The first clash, looked for day by day, field by field, inch by inch."""
    last = max([row[2] for row in one[1] + other[1]], default=0)
    for day, (mine, theirs) in enumerate(zip(days(one[1], last), days(other[1], last))):
        for field, _, _, _ in SMALL:
            for inch in range(20):
                ours, others = mine.get((field, inch)), theirs.get((field, inch))
                if (ours and ours[-1][2]) != (others and others[-1][2]):
                    return (day, field, inch, ours, others)
    return None


def pairs(many):
    """Rolls of SMALL two by two: some unlike altogether, most unlike in a row or two."""
    rolls = made_rolls(many)
    told = list(zip(rolls, rolls[1:]))
    for seed, first in enumerate(rolls):
        chance = Random(seed)
        strange = made_rows(seed + 900)
        for _ in range(4):
            second = without_row(first, chance.choice(first[1])[1])
            told.append((first, second))
            row = chance.choice(strange)
            if row[1] not in [known[1] for known in second[1]]:
                told.append((with_row(second, row), first))
    return told


class FirstClash(unittest.TestCase):
    def test_alike_rolls(self):
        self.assertIs(first_clash(BARE, BARE), None)
        for made in made_rolls(5):
            self.assertIs(untouched(self, first_clash, made, made), None)

    def test_rolls_that_differ_in_what_is_no_clash(self):
        same = [("alone", "a", 1, "ann"), ("forfeit", "b", 2, "east", "ann"), ("breach", "c", 3, "west", 1, 9, 9),
                ("view", "d", 4, "west", 1, "zed"), ("mend", "e", 5, "ann", "bob"), ("measure", "f", 6, "east", 600),
                ("part", "g", 7, "east", (("n", "ann", 10), ("s", "ann", 20))), ("join", "h", 8, ("n", "west"), "big"),
                ("forfeit", "i", 9, "nobody", "bob"), ("part", "j", 9, "s", (("n", "bob", 10), ("t", "bob", 11)))]
        for many in range(len(same) + 1):
            self.assertIs(first_clash(roll(*same[:many]), BARE), None)
            self.assertIs(first_clash(roll(*same), roll(*same[:many])), None)

    def test_houses_of_acres_that_bear_no_inch(self):
        forfeit = ("forfeit", "fo", 5, "mid", "zed")
        self.assertIs(first_clash(roll(forfeit), BARE), None)
        measured = ("measure", "me", 7, "mid", 4)
        told = first_clash(roll(forfeit, measured), roll(measured))
        self.assertEqual(told, (7, "mid", 0, [(None, "mid", "bob"), ("fo", "mid", "zed")], [(None, "mid", "bob")]))

    def test_unlike_houses(self):
        told = untouched(self, first_clash, roll(PART), BARE)
        self.assertEqual(shape(told), shape((5, "east", 200, EAST + [("pa", "s", "cid")], EAST)))
        told = untouched(self, first_clash, BARE, roll(PART))
        self.assertEqual(shape(told), shape((5, "east", 200, EAST, EAST + [("pa", "s", "cid")])))

    def test_an_inch_that_is_there_in_one_alone(self):
        for inches, inch, one, other in ((601, 600, EAST, None), (599, 599, None, EAST), (0, 0, None, EAST)):
            told = first_clash(roll(("measure", "me", 5, "east", inches)), BARE)
            self.assertEqual(shape(told), shape((5, "east", inch, one, other)))
        told = first_clash(BARE, roll(("measure", "me", 9999, "mid", 10 ** 7)))
        self.assertEqual(told, (9999, "mid", 0, None, [(None, "mid", "bob")]))

    def test_unlike_houses_ahead_of_an_inch_there_in_one_alone(self):
        # Of 300 inches the first 100 are n's: inch 100 goes to cid here and to ann there.
        told = first_clash(roll(PART, ("measure", "me", 5, "east", 300)), BARE)
        self.assertEqual(told[:3], (5, "east", 100))
        told = first_clash(roll(PART, ("measure", "me", 5, "east", 99)), BARE)
        self.assertEqual(told[:3], (5, "east", 33))
        told = first_clash(roll(("measure", "me", 5, "east", 99)), roll(("forfeit", "fo", 6, "east", "bob")))
        self.assertEqual(told[:3], (5, "east", 99))

    def test_the_first_day(self):
        west, east = ("forfeit", "fo", 5, "west", "bob"), ("forfeit", "fp", 6, "east", "bob")
        self.assertEqual(first_clash(roll(west, east), BARE)[:3], (5, "west", 0))
        self.assertEqual(first_clash(roll(east), roll(west))[:3], (5, "west", 0))
        self.assertEqual(first_clash(roll(put(west, 2, 0)), BARE)[0], 0)
        self.assertEqual(first_clash(roll(put(west, 2, 9999)), BARE)[0], 9999)

    def test_on_it_the_first_field_along_the_dyke(self):
        laying = (("zz", "ann", 3, 3), ("aa", "ann", 3, 3))
        rows = [("forfeit", "a", 1, "aa", "bob"), ("forfeit", "b", 1, "zz", "bob")]
        self.assertEqual(first_clash(roll_of(laying, rows), roll_of(laying, ()))[:3], (1, "zz", 0))

    def test_chains_behind_the_day(self):
        rows = [PART, ("forfeit", "pb", 5, "s", "dan"), ("forfeit", "pc", 6, "s", "eve")]
        told = first_clash(roll(*rows), BARE)
        self.assertEqual(told, (5, "east", 200, EAST + [("pa", "s", "cid"), ("pb", "s", "dan")], EAST))

    def test_what_is_undone_on_the_same_day_is_no_clash(self):
        rows = [("forfeit", "a", 5, "east", "bob"), ("forfeit", "b", 5, "east", "ann")]
        self.assertIs(first_clash(roll(*rows), BARE), None)
        self.assertEqual(first_clash(roll(rows[0], put(rows[1], 2, 6)), BARE)[0], 5)

    def test_one_written_later_than_the_other(self):
        row = ("forfeit", "a", 5, "west", "bob")
        told = first_clash(roll(row), roll(put(row, 2, 8)))
        self.assertEqual(told, (5, "west", 0, [(None, "west", "ann"), ("a", "west", "bob")], [(None, "west", "ann")]))

    def test_against_a_walk(self):
        none = some = later = 0
        for one, other in pairs(20):
            told = first_clash(one, other)
            self.assertEqual(told, walked(one, other))
            none += told is None
            some += told is not None
            later += told is not None and 0 < told[2]
        for many in (none, some, later):
            self.assertGreater(many, 5)

    def test_turned_round(self):
        for one, other in pairs(8):
            told, turned = first_clash(one, other), first_clash(other, one)
            if told is None:
                self.assertIs(turned, None)
            else:
                self.assertEqual(turned, told[:3] + (told[4], told[3]))
                day, field, inch = told[:3]
                for made, links in ((one, told[3]), (other, told[4])):
                    if links is not None:
                        self.assertEqual(chain(made, up_to(made, day), field, inch), links)

    def test_great_dykes_at_once(self):
        laying = tuple((field, "ann", 10 ** 6, 10 ** 7) for field in "abcdefgh")
        parts = [("part", "p" + field, 3, field, [(field, "ann", 999999), ("z" + field, "ann", 1)]) for field in "abcdefgh"]
        first = roll_of(laying, parts)
        for _ in range(20):
            told = first_clash(first, with_row(first, ("forfeit", "x", 9, "zh", "bob")))
            self.assertEqual(told[:3], (9, "h", 9999990))
        self.assertEqual(first_clash(first, with_row(first, ("measure", "x", 9, "h", 10 ** 7 - 1)))[:3], (9, "h", 9999999))

    def test_what_was_told_is_the_askers_own(self):
        first, kept = first_clash(roll(PART), BARE), first_clash(roll(PART), BARE)
        first[3].clear()
        first[4].append(None)
        self.assertEqual(first_clash(roll(PART), BARE), kept)
        self.assertIs(is_first_clash(roll(PART), BARE, first), False)


class IsFirstClash(unittest.TestCase):
    def told(self, one, other, thing):
        told = untouched(self, is_first_clash, one, other, thing)
        self.assertIn(shape(told), (shape(True), shape(False)))
        return told

    def test_none(self):
        for thing in things():
            self.assertIs(self.told(BARE, BARE, thing), thing is None, repr(thing)[:60])
            self.assertIs(self.told(roll(PART), BARE, thing), False, repr(thing)[:60])
        self.assertIs(self.told(BARE, BARE, first_clash(roll(PART), BARE)), False)

    def test_the_clash_alone(self):
        for one, other in pairs(6):
            own = first_clash(one, other)
            self.assertIs(self.told(one, other, own), True)
            self.assertIs(self.told(other, one, own), own is None)

    def test_clashes_that_are_not_the_first(self):
        rows = (("forfeit", "fo", 4, "west", "bob"), PART)
        chains = (EAST + [("pa", "s", "cid")], EAST)
        for thing in ((5, "east", 200) + chains, (4, "west", 1, [(None, "west", "ann"), ("fo", "west", "bob")],
                                                  [(None, "west", "ann")])):
            self.assertIs(self.told(roll(*rows), BARE, thing), False)
        self.assertIs(self.told(roll(PART), BARE, (5, "east", 200) + chains), True)
        self.assertIs(self.told(roll(PART), BARE, (6, "east", 200) + chains), False)
        self.assertIs(self.told(roll(PART), BARE, (5, "east", 201) + chains), False)

    def test_bent_at_every_place(self):
        one, other = roll(PART, ("measure", "me", 5, "mid", 1)), BARE
        own = first_clash(one, other)
        self.assertIs(self.told(one, other, own), True)
        bent = [list(own), listed(own), own[:4], own + (None,), own[::-1], (own,), [own], own * 2]
        for place in range(5):
            bent += [put(own, place, thing) for thing in things() + ["east", "mid", 200] if shape(thing) != shape(own[place])]
        for place in (3, 4):
            links = own[place]
            bent += [put(own, place, thing) for thing in (tuple(links), [list(link) for link in links], links[:-1], links * 2)]
        for thing in bent:
            self.assertIs(self.told(one, other, thing), False, repr(thing)[:80])

    def test_a_truth_in_the_place_of_a_number(self):
        for day in (0, 1):
            for inch in (0, 1):
                one, other = roll(("measure", "me", day, "mid", inch)), roll(("measure", "me", day, "mid", inch + 1))
                own = first_clash(one, other)
                self.assertEqual(own[:3], (day, "mid", inch))
                self.assertIs(self.told(one, other, own), True)
                self.assertIs(self.told(one, other, put(own, 0, bool(day))), False)
                self.assertIs(self.told(one, other, put(own, 2, bool(inch))), False)
