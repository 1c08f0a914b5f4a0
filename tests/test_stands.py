import unittest
from itertools import combinations

from dykelengths.errors import TooMany
from dykelengths.rolls import roll_of
from dykelengths.stands import shows_stands, stands
from tests.helper import HOUSES, letters, listed, lots, made_rolls, moments, nested, put, shape, things, untouched

# Places 0 to 9 ann's, 10 to 19 bob's, 20 to 29 ann's.
LAYING = (("a", "ann", 10, 10), ("b", "bob", 5, 10), ("c", "ann", 3, 10))
ROLL = roll_of(LAYING, ())
GREAT = tuple((field, "ann" if field < "e" else "bob", 10 ** 6, 10 ** 7) for field in "abcdefgh")
NO_INCH = roll_of((("a", "ann", 3, 0),), ())


def seen(post, sight, whole):
    return set(range(max(0, post - sight), min(whole, post + sight + 1)))


def fewest(wanted, sight, whole):
    """How many stands are needed, found by trying all of one, of two, of three .."""
    for many in range(whole + 1):
        for posts in combinations(range(whole), many):
            if set(wanted) <= set().union(*[seen(post, sight, whole) for post in posts]):
                return many
    return None


def is_right(wanted, sight, whole, many, posts, apart):
    """Whether rising lists of places of the dyke are stands and places apart, as few and as many as can be."""
    if len(posts) != many or len(apart) != many or not set(apart) <= set(wanted):
        return False
    if any(after - place <= 2 * sight for place, after in zip(apart, apart[1:])):
        return False
    return set(wanted) <= set().union(*[seen(post, sight, whole) for post in posts])


class Stands(unittest.TestCase):
    def test_stands(self):
        told = untouched(self, stands, ROLL, 0, ["bob"], 4)
        self.assertEqual(shape(told[1]), shape([10, 19]))
        self.assertEqual(len(told[0]), 2)
        self.assertIs(shows_stands(ROLL, 0, ["bob"], 4, told), True)
        self.assertEqual(len(stands(ROLL, 0, ["bob"], 5)[0]), 1)
        self.assertEqual(stands(ROLL, 0, ["bob"], 0), (list(range(10, 20)),) * 2)

    def test_where_nothing_is_wanted(self):
        for roll, houses in ((ROLL, []), (ROLL, ["nobody", "cid"]), (NO_INCH, ["ann"]), (NO_INCH, [])):
            for sight in (0, 1, 10 ** 9):
                told = untouched(self, stands, roll, 0, houses, sight)
                self.assertEqual(shape(told), shape(([], [])))
                self.assertIs(shows_stands(roll, 0, houses, sight, told), True)
                self.assertIs(shows_stands(roll, 0, houses, sight, ([0], [])), False)
                self.assertIs(shows_stands(roll, 0, houses, sight, ([0], [0])), False)

    def test_sight_over_the_whole_dyke(self):
        for sight in (15, 29, 30, 10 ** 9, 10 ** 59):
            for houses in (["ann"], ["bob"], ["ann", "bob"]):
                posts, apart = told = stands(ROLL, 0, houses, sight)
                self.assertEqual((len(posts), len(apart)), (1, 1))
                self.assertIn(posts[0], range(30))
                self.assertIs(shows_stands(ROLL, 0, houses, sight, told), True)

    def test_houses_told_several_times_and_names_of_nobody(self):
        for sight in (0, 2, 7):
            own = stands(ROLL, 0, ["ann"], sight)
            for houses in (["ann", "ann"], ["nobody", "ann"], ["ann", "cid", "ann", "zed"] * 500):
                self.assertEqual(untouched(self, stands, ROLL, 0, houses, sight), own)
                self.assertIs(untouched(self, shows_stands, ROLL, 0, houses, sight, own), True)

    def test_what_they_tend_and_not_what_they_hold(self):
        roll = roll_of(LAYING, [("mend", "m", 1, "ann", "bob"), ("measure", "n", 2, "c", 0)])
        self.assertEqual([len(stands(roll, at, ["bob"], 0)[0]) for at in range(3)], [10, 30, 20])
        self.assertEqual([len(stands(roll, at, ["ann"], 0)[0]) for at in range(3)], [20, 0, 0])

    def test_against_trying(self):
        for roll in made_rolls(6):
            for at, dyke in moments(roll):
                tenders = dyke.tenders()
                if at % 8 or len(tenders) > 16:
                    continue
                for houses in ([], ["ann"], ["bob", "cid"], list(HOUSES)):
                    wanted = [place for place, house in enumerate(tenders) if house in houses]
                    for sight in (1, 2, 3, 6):
                        told = untouched(self, stands, roll, at, houses, sight)
                        many = fewest(wanted, sight, len(tenders))
                        self.assertTrue(is_right(wanted, sight, len(tenders), many, *told), (at, houses, sight))
                        for places in told:
                            self.assertEqual(places, sorted(set(places)))
                            self.assertTrue(set(places) <= set(range(len(tenders))))

    def test_they_are_shown_everywhere(self):
        for roll in made_rolls(10):
            for at in range(0, 41, 4):
                for houses in (["ann"], ["bob", "cid"]):
                    for sight in (0, 1, 4, 50):
                        told = stands(roll, at, houses, sight)
                        self.assertIs(shows_stands(roll, at, houses, sight, told), True)

    def test_great_dykes_at_once(self):
        roll = roll_of(GREAT, ())
        for sight, many in ((10 ** 9, 1), (10 ** 7, 2), (10 ** 5, 200), (2 * 10 ** 7 - 1, 2), (2 * 10 ** 7, 1)):
            for houses in (["ann"], ["bob"]):
                told = stands(roll, 0, houses, sight)
                self.assertEqual([len(places) for places in told], [many, many])
                self.assertIs(shows_stands(roll, 0, houses, sight, told), True)

    def test_many_runs_at_once(self):
        parts = []
        for number in range(30):
            names = [name + letters(number) for name in "abcd"]
            houses = ["ann", "bob", "ann", "cid"]
            parts.append(("part", "p" + letters(number), number, "z",
                          list(zip(names, houses, (100, 7, 50, 1000))) + [("z", "bob", 10 ** 6 - 1157 * number - 1157)]))
        roll = roll_of((("z", "ann", 10 ** 6, 10 ** 7),), parts)
        for sight in (20, 100, 5000, 10 ** 6):
            if sight == 20:
                with self.assertRaises(TooMany):
                    stands(roll, 30, ["ann"], sight)
            else:
                told = stands(roll, 30, ["ann"], sight)
                self.assertIs(shows_stands(roll, 30, ["ann"], sight, told), True)

    def test_what_was_told_is_the_askers_own(self):
        first, kept = stands(ROLL, 0, ["ann"], 2), stands(ROLL, 0, ["ann"], 2)
        first[0].clear()
        first[1].append(5)
        self.assertEqual(stands(ROLL, 0, ["ann"], 2), kept)


class TooManyStands(unittest.TestCase):
    def test_three_hundred_and_one_more(self):
        for sight in (0, 1, 2, 100, 10 ** 4):
            wide = 2 * sight + 1
            for whole, right in ((300 * wide, True), (300 * wide + 1, False), (299 * wide + 1, True), (301 * wide, False)):
                roll = roll_of((("a", "ann", 7, whole), ("b", "bob", 1, 10)), ())
                if right:
                    told = untouched(self, stands, roll, 0, ["ann"], sight)
                    self.assertEqual((len(told[0]), len(told[1])), (300, 300))
                    self.assertIs(shows_stands(roll, 0, ["ann"], sight, told), True)
                    self.assertIs(shows_stands(roll, 0, ["ann"], sight, ([], [])), False)
                else:
                    with self.assertRaises(TooMany):
                        untouched(self, stands, roll, 0, ["ann"], sight)
                    for thing in things() + [([], []), (list(range(301)),) * 2]:
                        with self.assertRaises(TooMany):
                            untouched(self, shows_stands, roll, 0, ["ann"], sight, thing)

    def test_of_great_dykes_at_once(self):
        roll = roll_of(GREAT, ())
        for sight in (0, 1, 60000):
            with self.assertRaises(TooMany):
                stands(roll, 0, ["ann"], sight)
            with self.assertRaises(TooMany):
                shows_stands(roll, 0, ["ann"], sight, None)
        self.assertEqual(len(stands(roll, 0, ["ann"], 66667)[0]), 300)
        self.assertEqual(stands(roll, 0, ["nobody"], 0), ([], []))

    def test_bounds_do_not_count_what_is_not_wanted(self):
        roll = roll_of((("a", "ann", 5, 10 ** 7), ("b", "bob", 1, 300), ("c", "ann", 5, 10 ** 7)), ())
        self.assertEqual(stands(roll, 0, ["bob"], 0)[1], list(range(10 ** 7, 10 ** 7 + 300)))


class ShowsStands(unittest.TestCase):
    def shown(self, houses, sight, thing, roll=ROLL):
        told = untouched(self, shows_stands, roll, 0, houses, sight, thing)
        self.assertIn(shape(told), (shape(True), shape(False)))
        return told

    def test_any_such_tuple_whoever_wrote_it(self):
        roll = roll_of((("a", "ann", 2, 2), ("b", "bob", 1, 1), ("c", "ann", 1, 1), ("d", "bob", 1, 2)), ())
        tenders = ["ann", "ann", "bob", "ann", "bob", "bob"]
        choices = lots(range(6))
        for houses in ([], ["ann"], ["bob"], ["ann", "bob"]):
            wanted = [place for place, house in enumerate(tenders) if house in houses]
            for sight in (0, 1, 2, 3):
                many = fewest(wanted, sight, 6)
                some = 0
                for posts in choices:
                    for apart in choices:
                        right = is_right(wanted, sight, 6, many, posts, apart)
                        self.assertIs(shows_stands(roll, 0, houses, sight, (posts, apart)), right)
                        some += right
                self.assertGreater(some, 0)

    def test_other_stands_than_those_told(self):
        # Ten places in a row, five of them seen from each: the stands may shift, the places apart, too.
        for posts in ([12, 17], [11, 16], [12, 16]):
            right = posts == [12, 17]
            self.assertIs(self.shown(["bob"], 2, (posts, [10, 15])), right)
        for apart in ([10, 15], [10, 19], [14, 19], [12, 18]):
            self.assertIs(self.shown(["bob"], 2, ([12, 17], apart)), True)
        for apart in ([10, 14], [9, 15], [10, 20], [15, 10], [10, 10], [15], [10, 15, 20], [5, 15]):
            self.assertIs(self.shown(["bob"], 2, ([12, 17], apart)), False)
        for posts, right in (([13], True), ([14], True), ([15], True), ([10], False), ([19], False)):
            self.assertIs(self.shown(["bob"], 6, (posts, [13])), right)

    def test_stands_must_be_places_of_the_dyke(self):
        roll = roll_of((("a", "ann", 1, 3),), ())
        for post, right in ((0, True), (1, True), (2, True), (3, False), (4, False), (-1, False), (-2, False)):
            self.assertIs(self.shown(["ann"], 5, ([post], [0]), roll), right)

    def test_one_too_many_or_too_few(self):
        own = ([12, 17], [10, 15])
        self.assertIs(self.shown(["bob"], 2, own), True)
        for thing in (([12, 17, 20], [10, 15]), ([12, 14, 17], [10, 15]), ([12], [10]), ([12], [10, 15]), ([12, 17], [10]),
                      ([17], [10, 15]), ([12, 17], []), ([], [])):
            self.assertIs(self.shown(["bob"], 2, thing), False)
        self.assertIs(self.shown(["bob"], 4, ([11, 14, 17], [10, 19])), False)

    def test_truths_in_the_place_of_numbers(self):
        roll = roll_of((("a", "ann", 1, 2),), ())
        self.assertIs(self.shown(["ann"], 0, ([0, 1], [0, 1]), roll), True)
        for thing in (([False, 1], [0, 1]), ([0, True], [0, 1]), ([0, 1], [False, 1]), ([0, 1], [0, True])):
            self.assertIs(self.shown(["ann"], 0, thing, roll), False)

    def test_bent_at_every_place(self):
        own = ([2, 7, 22, 27], [0, 5, 20, 25])
        self.assertIs(self.shown(["ann"], 2, own), True)
        bent = [list(own), listed(tuple(map(tuple, own))), own[:1], own + ([],), (own,), [own], {0: own[0], 1: own[1]},
                own[::-1], tuple(map(tuple, own)), own * 2, (own[0], None)]
        for place in range(2):
            bent += [put(own, place, thing) for thing in things() + [own[place][::-1], tuple(own[place]), own[place] * 2,
                                                                    dict.fromkeys(own[place])]]
            for at, number in enumerate(own[place]):
                for thing in things() + [[number], str(number), number - 1, 30, own[place][at - 1]]:
                    if shape(thing) != shape(number):
                        bent.append(put(own, place, own[place][:at] + [thing] + own[place][at + 1:]))
        for thing in bent:
            self.assertIs(self.shown(["ann"], 2, thing), False, repr(thing)[:80])

    def test_whatever_thing(self):
        for thing in things() + [nested(tuple, 60), ((), ()), ([], ()), ((), []), [[], []], (None, None), ({}, {}), ("", "")]:
            self.assertIs(self.shown(["ann"], 2, thing), False, repr(thing)[:60])
            self.assertIs(self.shown([], 2, thing), False, repr(thing)[:60])
        self.assertIs(self.shown([], 2, ([], [])), True)
