import unittest

from dykelengths.errors import NoMend, NoName
from dykelengths.feet import at_place, bearer, long
from dykelengths.lands import words
from dykelengths.menders import is_road, mends, ring, road, tended
from dykelengths.rolls import roll_of
from tests.helper import HOUSES, LAYING, ROWS, SMALL, Acres, in_runs, letters, made_rolls, moments, shape, things, untouched

CHAIN = (
    ("mend", "a", 1, "ann", "bob"),
    ("mend", "b", 2, "bob", "cid"),
    ("mend", "c", 3, "cid", "ann"),
    ("mend", "d", 4, "ann", "dan"),
    ("mend", "e", 5, "dan", "bob"),
    ("alone", "f", 6, "bob"),
    ("alone", "g", 7, "bob"),
    ("mend", "h", 8, "bob", "ann"),
)
ROLL = roll_of(LAYING, CHAIN)
ROADS = (["ann"], ["ann", "bob"], ["ann", "bob", "cid"], ["ann", "bob", "cid"], ["ann", "dan"],
         ["ann", "dan", "bob", "cid"], ["ann", "dan", "bob"], ["ann", "dan", "bob"], ["ann", "dan", "bob"])


def long_chain(many):
    """A mend from each house to the next one, in some other order than along the road."""
    pairs = [(letters(number), letters(number + 1)) for number in range(many)]
    return [("mend", "m" + house, day, house, other)
            for day, (house, other) in enumerate(sorted(pairs, key=lambda pair: pair[0][::-1]))]


class Roads(unittest.TestCase):
    def test_behind_every_number_of_rows(self):
        self.assertEqual(words(ROLL), ["done", "done", "ring", "done", "done", "done", "none", "ring"])
        for at, told in enumerate(ROADS):
            self.assertEqual(shape(untouched(self, road, ROLL, at, "ann")), shape(told))
            self.assertEqual(shape(untouched(self, mends, ROLL, at, "ann")), shape(told[-1]))

    def test_a_house_that_nobody_speaks_of(self):
        for at in range(9):
            for house in ("nobody", "east", "a"):
                self.assertEqual(road(ROLL, at, house), [house])
                self.assertEqual(mends(ROLL, at, house), house)
                self.assertIs(is_road(ROLL, at, house, [house]), True)

    def test_a_mender_that_is_given_anew_or_taken_away(self):
        rows = [("mend", "a", 1, "ann", "bob"), ("mend", "b", 2, "ann", "cid"), ("alone", "c", 3, "ann"),
                ("mend", "d", 4, "ann", "bob")]
        roll = roll_of(LAYING, rows)
        self.assertEqual([mends(roll, at, "ann") for at in range(5)], ["ann", "bob", "cid", "ann", "bob"])
        self.assertEqual([mends(roll, at, "bob") for at in range(5)], ["bob"] * 5)

    def test_a_mend_of_the_same_mender_again(self):
        roll = roll_of(LAYING, [("mend", "a", 1, "ann", "bob"), ("mend", "b", 2, "ann", "bob"), ("alone", "c", 3, "ann")])
        self.assertEqual(words(roll), ["done"] * 3)
        self.assertEqual([road(roll, at, "ann") for at in (2, 3)], [["ann", "bob"], ["ann"]])

    def test_as_long_as_forty_rows_can_make_it(self):
        roll = roll_of(LAYING, long_chain(40))
        self.assertEqual(road(roll, 40, "aaa"), [letters(number) for number in range(41)])
        self.assertEqual(mends(roll, 40, "aaa"), letters(40))

    def test_against_a_walk(self):
        for roll in made_rolls(40):
            for at, dyke in moments(roll):
                for house in HOUSES + ("zed",):
                    told = road(roll, at, house)
                    self.assertEqual(told, dyke.road(house))
                    self.assertEqual(mends(roll, at, house), told[-1])

    def test_at_no_moment_do_menders_lead_round(self):
        for roll in made_rolls(40):
            for at in range(41):
                for house in HOUSES:
                    told = road(roll, at, house)
                    self.assertEqual(len(told), len(set(told)))
                    for place, other in enumerate(told):
                        self.assertEqual(road(roll, at, other), told[place:])

    def test_what_was_told_is_the_askers_own(self):
        first = road(ROLL, 5, "ann")
        first.clear()
        self.assertEqual(road(ROLL, 5, "ann"), ROADS[5])


class IsRoad(unittest.TestCase):
    def told(self, at, house, thing):
        told = untouched(self, is_road, ROLL, at, house, thing)
        self.assertIn(shape(told), (shape(True), shape(False)))
        return told

    def test_the_road_alone(self):
        for at, own in enumerate(ROADS):
            for other in ROADS:
                self.assertIs(self.told(at, "ann", list(other)), other == own)
        for at in range(9):
            for house in ("ann", "bob", "cid", "dan"):
                self.assertIs(self.told(at, house, road(ROLL, at, house)), True)
                self.assertIs(self.told(at, "eve", road(ROLL, at, house)), False)

    def test_bent_roads(self):
        own = ROADS[5]
        bent = [tuple(own), own + ["cid"], own + ["ann"], own[:-1], own[1:], own[::-1], [own], own + [None], [], own * 2]
        for at in range(4):
            bent.append(own[:at] + own[at + 1:])
            for thing in things() + ["eve", [own[at]], (own[at],)]:
                bent.append(own[:at] + [thing] + own[at + 1:])
        for thing in bent:
            self.assertIs(self.told(5, "ann", thing), False, repr(thing)[:60])
        self.assertIs(self.told(5, "ann", own), True)

    def test_whatever_thing(self):
        for thing in things() + ["ann", ("ann",), {"ann": "bob"}, ["nobody"]]:
            for at in (0, 5):
                self.assertIs(self.told(at, "ann", thing), False, repr(thing)[:60])


class Rings(unittest.TestCase):
    def test_of_idle_mends(self):
        self.assertEqual(shape(untouched(self, ring, ROLL, "c")), shape(["cid", "ann", "bob", "cid"]))
        self.assertEqual(ring(ROLL, "h"), ["bob", "ann", "dan", "bob"])
        roll = roll_of(LAYING, [("mend", "a", 1, "ann", "bob"), ("mend", "b", 2, "bob", "ann")])
        self.assertEqual(ring(roll, "b"), ["bob", "ann", "bob"])

    def test_up_to_the_house_where_the_road_goes_on(self):
        rows = [("mend", "a", 1, "ann", "bob"), ("mend", "b", 2, "bob", "cid"), ("mend", "c", 3, "cid", "dan"),
                ("mend", "d", 4, "bob", "ann")]
        self.assertEqual(ring(roll_of(LAYING, rows), "d"), ["bob", "ann", "bob"])

    def test_of_every_length(self):
        for many in range(1, 40):
            rows = long_chain(many) + [("mend", "z", 99, letters(many), letters(0))]
            told = ring(roll_of(LAYING, rows), "z")
            self.assertEqual(told, [letters(many)] + [letters(number) for number in range(many + 1)])

    def test_none_of_done_ones(self):
        for name in "abde":
            self.assertIs(untouched(self, ring, ROLL, name), None)

    def test_at_the_moment_of_the_mend(self):
        # Later rows open the ring; earlier ones closed it.
        rows = [("mend", "a", 1, "ann", "bob"), ("mend", "b", 2, "bob", "ann"), ("alone", "c", 3, "ann"),
                ("mend", "d", 4, "bob", "ann")]
        roll = roll_of(LAYING, rows)
        self.assertEqual([ring(roll, name) for name in "abd"], [None, ["bob", "ann", "bob"], None])

    def test_against_a_walk(self):
        seen = 0
        for roll in made_rolls(60):
            dyke = Acres(SMALL)
            for row, word in zip(roll[1], words(roll)):
                if row[0] == "mend":
                    told = ring(roll, row[1])
                    self.assertEqual(told is None, word == "done")
                    if told is not None:
                        way = dyke.road(row[4])
                        self.assertEqual(told, [row[3]] + way[:way.index(row[3]) + 1])
                        self.assertEqual((told[0], told[-1]), (row[3], row[3]))
                        seen += 1
                dyke.do(row)
        self.assertGreater(seen, 20)

    def test_refused(self):
        roll = roll_of(LAYING, ROWS)
        for row in ROWS:
            if row[0] != "mend":
                with self.assertRaises(NoMend, msg=row):
                    ring(roll, row[1])
        for name in things() + ["nobody", "ann", ["mend"], ("mend",), {"mend": 1}, ROWS[4]]:
            with self.assertRaises(NoName, msg=repr(name)[:40]):
                untouched(self, ring, roll, name)

    def test_what_was_told_is_the_askers_own(self):
        first = ring(ROLL, "c")
        first.clear()
        self.assertEqual(ring(ROLL, "c"), ["cid", "ann", "bob", "cid"])


class Tended(unittest.TestCase):
    def test_without_menders(self):
        told = untouched(self, tended, roll_of(LAYING, ()), 0)
        self.assertEqual(shape(told), shape([(0, 700, "ann")]))

    def test_over_lands_and_houses_that_one_house_tends(self):
        rows = [("part", "a", 1, "east", (("n", "ann", 10), ("s", "cid", 20))), ("measure", "b", 2, "mid", 5),
                ("mend", "c", 3, "cid", "bob"), ("mend", "d", 4, "ann", "cid"), ("alone", "e", 5, "cid")]
        roll = roll_of(LAYING, rows)
        self.assertEqual([tended(roll, at) for at in range(6)], [
            [(0, 700, "ann")],
            [(0, 200, "ann"), (200, 600, "cid"), (600, 700, "ann")],
            [(0, 200, "ann"), (200, 600, "cid"), (600, 605, "bob"), (605, 705, "ann")],
            [(0, 200, "ann"), (200, 605, "bob"), (605, 705, "ann")],
            [(0, 705, "bob")],
            [(0, 600, "cid"), (600, 605, "bob"), (605, 705, "cid")],
        ])

    def test_where_the_dyke_has_no_inch(self):
        self.assertEqual(shape(tended(roll_of((("a", "ann", 3, 0),), ()), 0)), shape([]))

    def test_against_a_walk(self):
        for roll in made_rolls(30):
            for at, dyke in moments(roll):
                self.assertEqual(tended(roll, at), in_runs(dyke.tenders()))

    def test_agrees_with_bearer_and_mends(self):
        for roll in made_rolls(10):
            for at in range(0, 41, 5):
                told = tended(roll, at)
                self.assertEqual([run[0] for run in told] + [long(roll, at)], [0] + [run[1] for run in told])
                for low, high, house in told:
                    for place in range(low, high):
                        keeps = bearer(roll, at, *at_place(roll, at, place))[1]
                        self.assertEqual(mends(roll, at, keeps), house)

    def test_great_dykes_at_once(self):
        laying = (("east", "ann", 10 ** 6, 10 ** 7), ("west", "bob", 10 ** 6, 10 ** 7))
        roll = roll_of(laying, [("mend", "a", 1, "ann", "bob"), ("forfeit", "b", 2, "east", "cid")])
        for _ in range(100):
            self.assertEqual(tended(roll, 1), [(0, 2 * 10 ** 7, "bob")])
            self.assertEqual(tended(roll, 2), [(0, 10 ** 7, "cid"), (10 ** 7, 2 * 10 ** 7, "bob")])

    def test_what_was_told_is_the_askers_own(self):
        first, kept = tended(ROLL, 5), tended(ROLL, 5)
        first.clear()
        self.assertEqual(tended(ROLL, 5), kept)
