import unittest

from dykelengths.dues import due, dues
from dykelengths.errors import NoBreach, NoName
from dykelengths.lands import words
from dykelengths.rolls import roll_of, with_row
from tests.helper import LAYING, SMALL, Acres, made_rolls, put, shape, things, untouched

# Acres: thirty of ann, seven of bob, twenty of ann.
BREACH = ("breach", "br", 5, "east", 3, 57, 20)
PART = ("part", "pa", 5, "east", (("n", "bob", 10), ("s", "cid", 20)))


def counted(dyke, pence):
    """Penny by penny, over the acres along the dyke."""
    told = {house: 0 for house in dyke.house.values()}
    for penny in range(pence):
        told[dyke.house[dyke.land[dyke.acres[penny * len(dyke.acres) // pence]]]] += 1
    return sorted(told.items())


def paid(rows, name="br", laying=LAYING):
    return dues(roll_of(laying, rows), name)


class Dues(unittest.TestCase):
    def test_by_acres(self):
        self.assertEqual(shape(untouched(self, dues, roll_of(LAYING, [BREACH]), "br")), shape([("ann", 50), ("bob", 7)]))
        self.assertEqual(paid([PART, BREACH]), [("ann", 20), ("bob", 17), ("cid", 20)])

    def test_houses_that_pay_nothing_are_told(self):
        self.assertEqual(paid([put(BREACH, 5, 0)]), [("ann", 0), ("bob", 0)])
        # One penny goes to the first acre; two to the first and to acre 57 * 1 // 2, ann's both.
        self.assertEqual(paid([put(BREACH, 5, 1)]), [("ann", 1), ("bob", 0)])
        self.assertEqual(paid([put(BREACH, 5, 2)]), [("ann", 2), ("bob", 0)])
        self.assertEqual(paid([put(BREACH, 5, 2), PART]), [("ann", 0), ("bob", 1), ("cid", 1)])

    def test_houses_without_land_are_not_told(self):
        rows = [BREACH, ("forfeit", "fo", 4, "mid", "ann"), ("mend", "me", 4, "ann", "zed")]
        self.assertEqual(paid(rows), [("ann", 57)])

    def test_behind_all_rows_ahead_of_it_and_not_those_behind(self):
        forfeit = ("forfeit", "zz", 5, "mid", "dan")
        for day, told in ((4, "dan"), (5, "dan"), (6, "bob")):
            self.assertEqual(paid([BREACH, put(forfeit, 2, day)]), [("ann", 50), (told, 7)])
        rows = [BREACH, PART, ("forfeit", "fa", 6, "s", "eve")]
        self.assertEqual(paid(rows), paid(rows[:2]))

    def test_the_same_acres_pay_the_same(self):
        first = paid([BREACH])
        parts = ("part", "pa", 1, "east", (("n", "ann", 13), ("s", "ann", 17)))
        for rows in ([parts], [("join", "jo", 1, ("east", "west"), "big")], [parts, ("join", "jo", 2, ("s", "west"), "w")],
                     [("measure", "me", 1, "east", 4)], [("measure", "me", 1, "west", 0)], [("mend", "me", 1, "ann", "bob")]):
            self.assertEqual(paid(rows + [BREACH]), first)

    def test_what_others_part_changes_nothing_for_a_house(self):
        for pence in (0, 1, 2, 5, 10 ** 9, 999999937):
            breach = put(BREACH, 5, pence)
            ahead, behind = dict(paid([breach])), dict(paid([breach, PART]))
            mid = ("forfeit", "fo", 1, "mid", "dan")
            self.assertEqual(ahead["bob"], dict(paid([breach, PART, mid]))["dan"])
            # The heirs pay together what the parted land would.
            heirs = ("part", "pa", 1, "east", (("n", "xa", 1), ("o", "xb", 8), ("p", "xc", 21)))
            rows = [breach, ("forfeit", "fa", 0, "east", "all")]
            whole = dict(paid(rows))
            split = dict(paid(rows + [heirs]))
            self.assertEqual(split["xa"] + split["xb"] + split["xc"], whole["all"])
            self.assertEqual((split["ann"], split["bob"]), (whole["ann"], whole["bob"]))
            self.assertEqual(sum(behind.values()), pence)

    def test_in_one_step_or_in_several(self):
        one = [("part", "pa", 1, "east", (("n", "xa", 5), ("o", "xb", 8), ("p", "xc", 17)))]
        steps = [("part", "pa", 1, "east", (("n", "xa", 5), ("z", "xc", 25))),
                 ("part", "pb", 2, "z", (("o", "xb", 8), ("p", "xc", 17)))]
        for pence in (0, 1, 7, 56, 58, 10 ** 9):
            breach = put(BREACH, 5, pence)
            self.assertEqual(paid(one + [breach]), paid(steps + [breach]))

    def test_against_counting_penny_by_penny(self):
        for seed, roll in enumerate(made_rolls(30)):
            dyke = Acres(SMALL)
            for at, (row, word) in enumerate(zip(roll[1], words(roll))):
                if row[0] == "breach" and word == "done":
                    for pence in (0, 1, seed % 5 + 2, 10, 13, 200):
                        rows = roll[1][:at] + (put(row, 5, pence),) + roll[1][at + 1:]
                        told = dues((SMALL, rows), row[1])
                        self.assertEqual(told, counted(dyke, pence))
                        self.assertEqual(sum(pence for _, pence in told), pence)
                dyke.do(row)

    def test_many_pence_and_acres_at_once(self):
        laying = (("a", "ann", 10 ** 6, 10), ("b", "bob", 999983, 10), ("c", "ann", 1, 0))
        for _ in range(100):
            told = paid([("breach", "br", 5, "a", 9, 10 ** 9, 0)], "br", laying)
            # Acre x begins at penny x * 10 ** 9 / 1999984, rounded up.
            first, last = -(-10 ** 15 // 1999984), -(-10 ** 9 * 1999983 // 1999984)
            self.assertEqual(told, [("ann", first + 10 ** 9 - last), ("bob", last - first)])

    def test_refused(self):
        idle = ("breach", "idle", 5, "mid", 0, 10, 10)
        others = [PART, ("join", "jo", 5, ("mid", "west"), "x"), ("forfeit", "fo", 5, "mid", "bob"),
                  ("measure", "me", 5, "west", 4), ("mend", "md", 5, "ann", "bob"), ("alone", "al", 5, "cid"),
                  ("view", "vi", 5, "east", 0, "ann"), idle]
        roll = roll_of(LAYING, others + [BREACH])
        self.assertEqual(len(dues(roll, "br")), 3)
        for row in others:
            for ask in (lambda name: dues(roll, name), lambda name: due(roll, name, "ann")):
                with self.assertRaises(NoBreach, msg=row):
                    ask(row[1])
        for name in things() + ["nobody", "east", "ann", ["br"], ("br",), {"br": 1}, BREACH]:
            with self.assertRaises(NoName, msg=repr(name)[:40]):
                untouched(self, dues, roll, name)
            with self.assertRaises(NoName, msg=repr(name)[:40]):
                untouched(self, due, roll, name, "ann")
            with self.assertRaises(NoName):
                due(roll, name, "nobody")

    def test_done_or_idle_by_the_rows_ahead(self):
        roll = roll_of(LAYING, [("breach", "br", 5, "mid", 0, 57, 1)])
        with self.assertRaises(NoBreach):
            dues(roll, "br")
        with self.assertRaises(NoBreach):
            dues(with_row(roll, ("measure", "me", 6, "mid", 1)), "br")
        roll = with_row(roll, ("measure", "me", 5, "mid", 1))
        self.assertEqual(dues(roll, "br"), [("ann", 50), ("bob", 7)])
        self.assertEqual(dues(with_row(roll, ("measure", "mf", 6, "mid", 0)), "br"), [("ann", 50), ("bob", 7)])

    def test_due(self):
        roll = roll_of(LAYING, [BREACH, PART])
        told = {house: untouched(self, due, roll, "br", house) for house in ("ann", "bob", "cid", "dan", "east", "br", "pa")}
        self.assertEqual(shape(told), shape({"ann": 20, "bob": 17, "cid": 20, "dan": 0, "east": 0, "br": 0, "pa": 0}))

    def test_what_was_told_is_the_askers_own(self):
        roll = roll_of(LAYING, [BREACH])
        first, kept = dues(roll, "br"), dues(roll, "br")
        first.clear()
        self.assertEqual(dues(roll, "br"), kept)
