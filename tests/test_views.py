import unittest

from dykelengths.lands import words
from dykelengths.rolls import roll_of
from dykelengths.views import wrong_views
from tests.helper import LAYING, SMALL, Acres, made_rolls, put, shape, untouched

VIEW = ("view", "vi", 5, "east", 200, "ann")
PART = ("part", "pa", 5, "east", (("n", "ann", 10), ("s", "cid", 20)))


def wrong(*rows):
    return wrong_views(roll_of(LAYING, rows))


class WrongViews(unittest.TestCase):
    def test_right_ones_are_not_told(self):
        self.assertEqual(shape(wrong()), shape([]))
        self.assertEqual(shape(wrong(VIEW)), shape([]))
        self.assertEqual(wrong(PART, put(VIEW, 5, "cid")), [])
        self.assertEqual(wrong(PART, put(VIEW, 4, 199)), [])

    def test_wrong_ones(self):
        told = untouched(self, wrong_views, roll_of(LAYING, [VIEW, PART]))
        self.assertEqual(shape(told), shape([("vi", "ann", "cid")]))
        self.assertEqual(wrong(put(VIEW, 5, "nobody")), [("vi", "nobody", "ann")])
        # A land's name is no house's.
        self.assertEqual(wrong(put(VIEW, 5, "east")), [("vi", "east", "ann")])

    def test_behind_all_rows_ahead_of_it_and_not_those_behind(self):
        for day, told in ((4, [("vi", "ann", "cid")]), (5, [("vi", "ann", "cid")]), (6, [])):
            self.assertEqual(wrong(VIEW, put(PART, 2, day)), told)
        forfeit = ("forfeit", "fo", 6, "east", "bob")
        again = ("view", "vj", 7, "east", 200, "ann")
        self.assertEqual(wrong(VIEW, forfeit, again), [("vj", "ann", "bob")])

    def test_idle_ones_are_not_told(self):
        for view in (put(VIEW, 4, 600), put(put(VIEW, 3, "mid"), 4, 0), put(VIEW, 4, 10 ** 7 - 1)):
            self.assertEqual(wrong(put(view, 5, "nobody")), [])
        short = ("measure", "me", 5, "east", 200)
        self.assertEqual(wrong(put(VIEW, 5, "bob"), short), [])
        self.assertEqual(wrong(put(VIEW, 5, "bob"), put(short, 2, 6)), [("vi", "bob", "ann")])

    def test_an_inch_of_a_field_measured_anew(self):
        # Three inches over thirty acres: acres 0, 10, 20.
        rows = [PART, ("measure", "me", 5, "east", 3)]
        views = [("view", "v" + "abc"[inch], 5, "east", inch, "ann") for inch in range(3)]
        self.assertEqual(wrong(*rows, *views), [("vb", "ann", "cid"), ("vc", "ann", "cid")])

    def test_menders_and_breaches_do_not_count(self):
        self.assertEqual(wrong(VIEW, ("mend", "me", 1, "ann", "bob"), ("breach", "br", 1, "east", 200, 5, 5)), [])
        self.assertEqual(wrong(put(VIEW, 5, "bob"), ("mend", "me", 1, "ann", "bob")), [("vi", "bob", "ann")])

    def test_rising_by_names_not_by_days(self):
        views = [("view", name, day, "west", 0, house) for name, day, house in
                 (("c", 1, "bob"), ("a", 9, "cid"), ("b", 3, "ann"), ("d", 0, "x"), ("aa", 9, "z"))]
        self.assertEqual(wrong(*views), [("a", "cid", "ann"), ("aa", "z", "ann"), ("c", "bob", "ann"), ("d", "x", "ann")])

    def test_against_a_walk(self):
        seen = 0
        for roll in made_rolls(60):
            dyke, told = Acres(SMALL), []
            for row, word in zip(roll[1], words(roll)):
                if row[0] == "view" and word == "done":
                    house = dyke.house[dyke.land[row[3], dyke.bearer(row[3], row[4])]]
                    told += [(row[1], row[5], house)] if house != row[5] else []
                dyke.do(row)
            self.assertEqual(wrong_views(roll), sorted(told))
            seen += len(told)
        self.assertGreater(seen, 20)

    def test_great_dykes_at_once(self):
        laying = (("east", "ann", 10 ** 6, 10 ** 7),)
        rows = [("part", "pa", 1, "east", [("n", "ann", 333333), ("s", "bob", 666667)])]
        rows += [("view", "va", 2, "east", 3333329, "bob"), ("view", "vb", 2, "east", 3333330, "ann")]
        for _ in range(100):
            self.assertEqual(wrong_views(roll_of(laying, rows)), [("va", "bob", "ann"), ("vb", "ann", "bob")])

    def test_what_was_told_is_the_askers_own(self):
        roll = roll_of(LAYING, [VIEW, PART])
        first, kept = wrong_views(roll), wrong_views(roll)
        first.clear()
        self.assertEqual(wrong_views(roll), kept)
