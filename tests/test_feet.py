import unittest

from dykelengths.errors import NoInch, NoName
from dykelengths.feet import at_place, bearer, length_of, long, place_of, runs
from dykelengths.lands import inches_of, lands
from dykelengths.rolls import roll_of
from dykelengths.shares import share
from tests.helper import LAYING, SMALL, in_runs, made_rolls, moments, shape, things, untouched

PART = ("part", "pa", 1, "east", (("n", "ann", 10), ("s", "cid", 20)))
MEASURE = ("measure", "me", 2, "east", 7)
JOIN = ("join", "jo", 3, ("n", "west"), "big")
ROLL = roll_of(LAYING, (PART, MEASURE, JOIN))

GREAT = (("a", "ann", 10 ** 6, 10 ** 7), ("b", "bob", 1, 0), ("c", "ann", 999983, 10 ** 7), ("d", "cid", 1, 10 ** 7),
         ("e", "eve", 10 ** 6, 1), ("f", "ann", 7, 9999991), ("g", "bob", 10 ** 6, 0), ("h", "cid", 999999, 10 ** 7))
GREAT_LONG = 5 * 10 ** 7 - 8

NO_INCH = (("a", "ann", 3, 0), ("b", "bob", 4, 0))
HUGE = 10 ** 59


class Places(unittest.TestCase):
    def test_of_a_roll_without_rows(self):
        roll = roll_of(LAYING, ())
        self.assertEqual(shape(untouched(self, long, roll, 0)), shape(700))
        for place, spot in ((0, ("east", 0)), (599, ("east", 599)), (600, ("west", 0)), (699, ("west", 99))):
            self.assertEqual(shape(untouched(self, at_place, roll, 0, place)), shape(spot))
            self.assertEqual(shape(untouched(self, place_of, roll, 0, *spot)), shape(place))
        self.assertEqual(shape(untouched(self, bearer, roll, 0, "west", 99)), shape(("west", "ann")))

    def test_a_field_measured_anew_moves_the_places_behind_it(self):
        self.assertEqual([long(ROLL, at) for at in range(4)], [700, 700, 107, 107])
        self.assertEqual([place_of(ROLL, at, "west", 5) for at in range(4)], [605, 605, 12, 12])
        self.assertEqual([place_of(ROLL, at, "east", 5) for at in range(4)], [5, 5, 5, 5])
        self.assertEqual([at_place(ROLL, at, 12) for at in range(4)], [("east", 12)] * 2 + [("west", 5)] * 2)

    def test_a_field_measured_anew_leaves_those_ahead(self):
        roll = roll_of(LAYING, [("measure", "a", 1, "mid", 3), ("measure", "b", 2, "west", 0)])
        self.assertEqual([long(roll, at) for at in range(3)], [700, 703, 603])
        self.assertEqual([place_of(roll, at, "east", 599) for at in range(3)], [599] * 3)
        self.assertEqual([place_of(roll, at, "mid", 2) for at in (1, 2)], [602] * 2)
        self.assertEqual(place_of(roll, 1, "west", 0), 603)

    def test_they_undo_each_other_at_each_inch(self):
        for roll in made_rolls(12):
            for at, dyke in moments(roll):
                walk = dyke.walk()
                self.assertEqual(long(roll, at), len(walk))
                for place, (field, inch, _, _) in enumerate(walk):
                    self.assertEqual(at_place(roll, at, place), (field, inch))
                    self.assertEqual(place_of(roll, at, field, inch), place)

    def test_at_the_ends_of_great_dykes(self):
        roll = roll_of(GREAT, ())
        self.assertEqual(long(roll, 0), GREAT_LONG)
        first = 0
        for field, _, _, inches in GREAT:
            for inch in (0, 1, inches // 2, inches - 1) if inches else ():
                inch = min(inch, inches - 1)
                self.assertEqual(place_of(roll, 0, field, inch), first + inch)
                self.assertEqual(at_place(roll, 0, first + inch), (field, inch))
            first += inches

    def test_inches_that_are_not_there(self):
        for roll in (roll_of(LAYING, ()), ROLL, roll_of(GREAT, ()), roll_of(NO_INCH, ())):
            for at in range(len(roll[1]) + 1):
                for field in [place[0] for place in roll[0]]:
                    inches = inches_of(roll, at, field)
                    for inch in (inches, inches + 1, -1, -inches - 1, HUGE, -HUGE):
                        for ask in (place_of, bearer):
                            with self.assertRaises(NoInch, msg=(ask, at, field, inch)):
                                untouched(self, ask, roll, at, field, inch)

    def test_places_that_are_not_there(self):
        for roll, whole in ((roll_of(LAYING, ()), 700), (roll_of(GREAT, ()), GREAT_LONG), (roll_of(NO_INCH, ()), 0)):
            self.assertEqual(long(roll, 0), whole)
            for place in (whole, whole + 1, -1, -2, -whole - 1, HUGE, -HUGE):
                with self.assertRaises(NoInch, msg=place):
                    untouched(self, at_place, roll, 0, place)

    def test_fields_of_no_inches(self):
        laying = (("a", "x", 3, 0), ("b", "x", 2, 2), ("c", "y", 1, 0), ("d", "y", 9, 0), ("e", "z", 4, 3), ("f", "z", 5, 0))
        roll = roll_of(laying, ())
        spots = [("b", 0), ("b", 1), ("e", 0), ("e", 1), ("e", 2)]
        self.assertEqual([at_place(roll, 0, place) for place in range(5)], spots)
        self.assertEqual([place_of(roll, 0, *spot) for spot in spots], list(range(5)))
        self.assertEqual(runs(roll, 0), [(0, 2, "b", "x"), (2, 5, "e", "z")])
        for field in "acdf":
            with self.assertRaises(NoInch):
                place_of(roll, 0, field, 0)


class Bearers(unittest.TestCase):
    def test_which_acre_bears_an_inch(self):
        # Six hundred inches over thirty acres, ten of them n's; then seven inches: k * 30 // 7 below 10 for 0, 1, 2.
        self.assertEqual(bearer(ROLL, 1, "east", 199), ("n", "ann"))
        self.assertEqual(bearer(ROLL, 1, "east", 200), ("s", "cid"))
        self.assertEqual([bearer(ROLL, 2, "east", inch)[0] for inch in range(7)], ["n"] * 3 + ["s"] * 4)
        self.assertEqual([bearer(ROLL, 3, "east", inch)[0] for inch in range(7)], ["big"] * 3 + ["s"] * 4)

    def test_against_a_walk(self):
        for roll in made_rolls(15):
            for at, dyke in moments(roll):
                for field, inch, land, house in dyke.walk():
                    self.assertEqual(bearer(roll, at, field, inch), (land, house))

    def test_great_dykes_at_once(self):
        roll = roll_of(GREAT, [("part", "pa", 1, "a", (("x", "ann", 333333), ("y", "bob", 666667)))])
        for _ in range(300):
            self.assertEqual(bearer(roll, 1, "a", 3333329), ("x", "ann"))
            self.assertEqual(bearer(roll, 1, "a", 3333330), ("y", "bob"))


class Lengths(unittest.TestCase):
    def test_lengths(self):
        told = [{land: length_of(ROLL, at, land) for land, _, _ in lands(ROLL, at)} for at in range(4)]
        self.assertEqual(told, [
            {"east": 600, "mid": 0, "west": 100},
            {"n": 200, "s": 400, "mid": 0, "west": 100},
            {"n": 3, "s": 4, "mid": 0, "west": 100},
            {"big": 103, "s": 4, "mid": 0},
        ])
        self.assertEqual(shape(untouched(self, length_of, ROLL, 3, "big")), shape(103))

    def test_the_sum_of_the_shares_of_its_pieces(self):
        acres = {field: many for field, _, many, _ in SMALL}
        for roll in made_rolls(20):
            for at, dyke in moments(roll):
                borne = [land for _, _, land, _ in dyke.walk()]
                for land, _, pieces in lands(roll, at):
                    told = length_of(roll, at, land)
                    self.assertEqual(told, borne.count(land))
                    shared = [share(dyke.inches[field], acres[field], low, high) for field, low, high in pieces]
                    self.assertEqual(told, sum(shared))

    def test_no_land_is_called_so_then(self):
        for at, gone in ((0, ["n", "s", "big"]), (1, ["east", "big"]), (3, ["n", "west", "east"])):
            for land in gone + ["ann", "pa", "nobody"] + things() + [["east"], ("mid",), {"mid": 1}, "mid "]:
                with self.assertRaises(NoName, msg=repr(land)[:40]):
                    untouched(self, length_of, ROLL, at, land)

    def test_great_dykes_at_once(self):
        parts = (("x", "ann", 1), ("y", "bob", 499999), ("z", "ann", 500000))
        roll = roll_of(GREAT, [("part", "pa", 1, "a", parts), ("join", "pb", 2, ("c", "x"), "x")])
        self.assertEqual([length_of(roll, 1, land) for land in "xyz"], [10, 4999990, 5000000])
        self.assertEqual(length_of(roll, 2, "x"), 10 ** 7 + 10)


class Runs(unittest.TestCase):
    def test_of_a_roll_without_rows(self):
        told = untouched(self, runs, roll_of(LAYING, ()), 0)
        self.assertEqual(shape(told), shape([(0, 600, "east", "ann"), (600, 700, "west", "ann")]))

    def test_behind_every_number_of_rows(self):
        self.assertEqual([runs(ROLL, at) for at in range(1, 4)], [
            [(0, 200, "n", "ann"), (200, 600, "s", "cid"), (600, 700, "west", "ann")],
            [(0, 3, "n", "ann"), (3, 7, "s", "cid"), (7, 107, "west", "ann")],
            [(0, 3, "big", "ann"), (3, 7, "s", "cid"), (7, 107, "big", "ann")],
        ])

    def test_over_fields_ends(self):
        # A land in two fields, and a field of no inches between them.
        roll = roll_of(LAYING, [("join", "jo", 1, ("east", "west"), "big"), ("measure", "me", 2, "mid", 5)])
        self.assertEqual(runs(roll, 1), [(0, 700, "big", "ann")])
        self.assertEqual(runs(roll, 2), [(0, 600, "big", "ann"), (600, 605, "mid", "bob"), (605, 705, "big", "ann")])

    def test_lands_of_one_house_stay_apart(self):
        roll = roll_of(LAYING, [("part", "pa", 1, "east", (("n", "ann", 10), ("s", "ann", 20)))])
        self.assertEqual(runs(roll, 1), [(0, 200, "n", "ann"), (200, 600, "s", "ann"), (600, 700, "west", "ann")])

    def test_over_acres_of_others_that_bear_no_inch(self):
        laying = (("east", "ann", 4, 2),)
        rows = [("part", "pa", 1, "east", (("a", "ann", 1), ("b", "bob", 1), ("c", "ann", 2))),
                ("join", "pb", 2, ("a", "c"), "d")]
        roll = roll_of(laying, rows)
        self.assertEqual(runs(roll, 1), [(0, 1, "a", "ann"), (1, 2, "c", "ann")])
        self.assertEqual(runs(roll, 2), [(0, 2, "d", "ann")])
        self.assertEqual(length_of(roll, 2, "b"), 0)

    def test_where_the_dyke_has_no_inch(self):
        self.assertEqual(shape(runs(roll_of(NO_INCH, ()), 0)), shape([]))
        rows = [("measure", "a", 1, "east", 0), ("measure", "b", 1, "west", 0), ("measure", "c", 2, "mid", 1)]
        roll = roll_of(LAYING, rows)
        self.assertEqual([runs(roll, at) for at in (2, 3)], [[], [(0, 1, "mid", "bob")]])

    def test_against_a_walk(self):
        for roll in made_rolls(30):
            for at, dyke in moments(roll):
                walk = [(land, house) for _, _, land, house in dyke.walk()]
                told = [(low, high, land, house) for low, high, (land, house) in in_runs(walk)]
                self.assertEqual(runs(roll, at), told)

    def test_nothing_between_and_nothing_over(self):
        cuts = ("part", "pa", 1, "c", (("x", "ann", 1), ("y", "bob", 499999), ("z", "ann", 499983)))
        roll = roll_of(GREAT, [cuts, ("join", "pb", 2, ("a", "f", "z"), "a"), ("measure", "me", 3, "d", 0)])
        for at in range(4):
            told = runs(roll, at)
            self.assertEqual([run[0] for run in told] + [long(roll, at)], [0] + [run[1] for run in told])
            for run, after in zip(told, told[1:]):
                self.assertNotEqual(run[2], after[2])
            for low, high, land, house in told:
                self.assertLess(low, high)
                for place in (low, (low + high) // 2, high - 1):
                    self.assertEqual(bearer(roll, at, *at_place(roll, at, place)), (land, house))
        self.assertEqual(sum(high - low for low, high, land, _ in told if land == "a"), length_of(roll, 3, "a"))

    def test_as_many_pieces_as_forty_rows_can_make(self):
        rows = []
        for number in range(40):
            parts = [(name + chr(97 + number // 20) + chr(97 + number % 20), "ann", 1) for name in "abcd"]
            rows.append(("part", "p" + parts[0][0], number, "east", parts + [("east", "bob", 10 ** 6 - 4 * number - 4)]))
        roll = roll_of((("east", "ann", 10 ** 6, 10 ** 7),), rows)
        self.assertEqual((len(runs(roll, 40)), runs(roll, 40)[-1]), (161, (1600, 10 ** 7, "east", "bob")))

    def test_what_was_told_is_the_askers_own(self):
        first, kept = runs(ROLL, 3), runs(ROLL, 3)
        first.clear()
        self.assertEqual(runs(ROLL, 3), kept)
