import unittest

from dykelengths.changed import altered, turned
from dykelengths.rolls import roll_of
from tests.helper import LAYING, PART, SMALL, changes, listed, made_rolls, untouched


def both(ahead, behind):
    return turned(ahead, behind), altered(ahead, behind)


def of(*rows):
    return roll_of(LAYING, list(rows))


class Turned(unittest.TestCase):
    def test_its_own_row(self):
        self.assertEqual(turned(of(), of(PART)), [("pa", None, "done")])
        self.assertEqual(turned(of(PART), of()), [("pa", "done", None)])
        self.assertEqual(turned(of(PART), of(PART)), [])

    def test_it_rises(self):
        rows = [("forfeit", name, day, "north", "bob") for name, day in (("c", 7), ("a", 8), ("b", 9))]
        self.assertEqual(turned(of(*rows), of(PART, *rows)), [
            ("a", "land", "same"), ("b", "land", "same"), ("c", "land", "done"), ("pa", None, "done")])

    def test_idle_both_times(self):
        rows = [("forfeit", "a", 7, "east", "ann"), ("forfeit", "b", 7, "gone", "ann")]
        self.assertEqual(turned(of(*rows), of(PART, *rows)), [("a", "same", "land"), ("pa", None, "done")])


class Altered(unittest.TestCase):
    def parted(self, *parts):
        return of(["part", "p", 5, "east", list(parts)])

    def test_one_land(self):
        self.assertEqual(altered(of(), of(PART)), [("east", 10, 30, "ann", "cid")])
        self.assertEqual(altered(of(PART), of()), [("east", 10, 30, "cid", "ann")])
        self.assertEqual(altered(of(PART), of(PART)), [])

    def test_the_same_two_houses_whatever_lands(self):
        roll = self.parted(["a", "bob", 7], ["b", "bob", 11], ["c", "bob", 12])
        self.assertEqual(altered(of(), roll), [("east", 0, 30, "ann", "bob")])
        self.assertEqual(altered(roll, of()), [("east", 0, 30, "bob", "ann")])

    def test_unlike_houses_ahead_or_behind(self):
        roll = self.parted(["a", "bob", 7], ["b", "cid", 11], ["c", "bob", 12])
        self.assertEqual(altered(of(), roll), [
            ("east", 0, 7, "ann", "bob"), ("east", 7, 18, "ann", "cid"), ("east", 18, 30, "ann", "bob")])
        self.assertEqual(altered(roll, of()), [
            ("east", 0, 7, "bob", "ann"), ("east", 7, 18, "cid", "ann"), ("east", 18, 30, "bob", "ann")])

    def test_acres_between_that_stay(self):
        roll = self.parted(["a", "bob", 7], ["b", "ann", 1], ["c", "bob", 22])
        self.assertEqual(altered(of(), roll), [("east", 0, 7, "ann", "bob"), ("east", 8, 30, "ann", "bob")])

    def test_another_cut(self):
        one = self.parted(["a", "bob", 7], ["b", "cid", 23])
        other = self.parted(["a", "bob", 20], ["b", "cid", 10])
        self.assertEqual(altered(one, other), [("east", 7, 20, "cid", "bob")])

    def test_not_over_fields_ends(self):
        laying = [["b", "ann", 3, 0], ["a", "ann", 4, 5], ["c", "ann", 2, 1]]
        rows = [["join", "j", 1, ["a", "b", "c"], "all"], ["forfeit", "f", 2, "all", "bob"]]
        told = [("b", 0, 3, "ann", "bob"), ("a", 0, 4, "ann", "bob"), ("c", 0, 2, "ann", "bob")]
        self.assertEqual(altered(roll_of(laying, []), roll_of(laying, rows)), told)

    def test_the_same_house_by_another_land(self):
        self.assertEqual(altered(of(), self.parted(["a", "ann", 7], ["b", "ann", 23])), [])

    def test_great_fields(self):
        laying = [["east", "ann", 10 ** 6, 10 ** 7], ["west", "bob", 10 ** 6, 0]]
        rows = [["part", "p", 1, "east", [["a", "ann", 1], ["b", "bob", 10 ** 6 - 2], ["c", "ann", 1]]],
                ["forfeit", "f", 2, "west", "ann"]]
        told = [("east", 1, 10 ** 6 - 1, "ann", "bob"), ("west", 0, 10 ** 6, "bob", "ann")]
        self.assertEqual(altered(roll_of(laying, []), roll_of(laying, rows)), told)


class Both(unittest.TestCase):
    def test_acre_by_acre(self):
        rolls = made_rolls(24)
        for one, other in zip(rolls, rolls[1:]):
            self.assertEqual(untouched(self, both, one, other), changes(one, other))
        for roll in rolls:
            for at in (0, 11, 37):
                fewer = roll_of(SMALL, listed(roll[1][:at] + roll[1][at + 1:]))
                self.assertEqual(both(roll, fewer), changes(roll, fewer))
                self.assertEqual(both(fewer, roll), changes(fewer, roll))
