import unittest
from random import Random

from dykelengths.burdens import least
from dykelengths.chains import chain, chain_of_acre
from dykelengths.dues import dues
from dykelengths.errors import Clash
from dykelengths.feet import runs
from dykelengths.lands import lands, words
from dykelengths.menders import road, tended
from dykelengths.reach import reached
from dykelengths.renamed import called
from dykelengths.rolls import roll_of
from tests.helper import (
    ALONE, BREACH, FORFEIT, JOIN, LAYING, MEASURE, MEND, PART, ROWS, SMALL, VIEW, letters, listed, made_question,
    made_rolls, put, shape, things, untouched,
)

ROLL = roll_of(LAYING, ROWS)


def of(*rows):
    return roll_of(LAYING, list(rows))


def names_of(roll):
    """Three sets: the names of rows, of lands and of houses in the roll."""
    laying, rows = roll
    lands = {field for field, _, _, _ in laying}
    houses = {house for _, house, _, _ in laying}
    for kind, _, _, *rest in rows:
        if kind == "part":
            lands |= {rest[0]} | {land for land, _, _ in rest[1]}
            houses |= {house for _, house, _ in rest[1]}
        if kind == "join":
            lands |= set(rest[0]) | {rest[1]}
        if kind in ("forfeit", "measure", "breach", "view"):
            lands.add(rest[0])
        if kind in ("forfeit", "view", "alone", "mend"):
            houses.add(rest[-1])
        if kind == "mend":
            houses.add(rest[0])
    return {row[1] for row in rows}, lands, houses


class Called(unittest.TestCase):
    def check(self, row, rows, lands, houses, told):
        """Of the roll of this row alone, and told with no dict that says nothing."""
        self.assertEqual(shape(called(of(row), rows, lands, houses)[1]), shape((told,)))

    def test_names_that_are_not_told_stay(self):
        self.assertEqual(shape(untouched(self, called, ROLL, {}, {}, {})), shape(ROLL))
        others = {"zz": "pa", "yy": "pa"}
        self.assertEqual(untouched(self, called, ROLL, others, others, others), ROLL)
        self.assertEqual(called(ROLL, {"pa": "pa"}, {"east": "east"}, {"ann": "ann"}), ROLL)

    def test_the_laying(self):
        told = called(of(), {"east": "x"}, {"east": "z", "west": "a", "ann": "y"}, {"ann": "zed", "mid": "x"})
        self.assertEqual(shape(told), shape(((("z", "zed", 30, 600), ("mid", "bob", 7, 0), ("a", "zed", 20, 100)), ())))

    def test_rows(self):
        for row in ROWS:
            self.check(row, {row[1]: "new", "other": "pa"}, {}, {}, put(row, 1, "new"))
            self.check(row, {}, {row[1]: "new"}, {row[1]: "new"}, row)

    def test_words_of_rows_are_no_names(self):
        others = {"part": "xx", "join": "yy", "alone": "zz", "breach": "ww"}
        for row in (PART, JOIN, ALONE, BREACH):
            self.check(row, others, others, others, row)

    def test_lands(self):
        others = {"east": "oo", "west": "ww", "south": "sun", "big": "bb", "ann": "no", "bob": "no", "cid": "no"}
        laying = called(of(), {}, others, {})[0]
        self.assertEqual(laying, (("oo", "ann", 30, 600), ("mid", "bob", 7, 0), ("ww", "ann", 20, 100)))
        self.check(PART, {}, others, {}, ("part", "pa", 5, "oo", (("north", "ann", 10), ("sun", "cid", 20))))
        self.check(JOIN, {}, others, {}, ("join", "jo", 5, ("oo", "ww"), "bb"))
        self.check(FORFEIT, {}, others, {}, ("forfeit", "fo", 5, "oo", "bob"))
        self.check(MEASURE, {}, others, {}, ("measure", "me", 5, "oo", 700))
        self.check(BREACH, {}, others, {}, ("breach", "br", 5, "oo", 3, 1000, 20))
        self.check(VIEW, {}, others, {}, ("view", "vi", 5, "ww", 3, "ann"))
        self.check(MEND, {}, others, {}, MEND)
        self.check(ALONE, {}, others, {}, ALONE)

    def test_houses(self):
        others = {"ann": "aa", "bob": "bb", "cid": "cc", "east": "no", "west": "no", "mid": "no", "north": "no"}
        laying = called(of(), {}, {}, others)[0]
        self.assertEqual(laying, (("east", "aa", 30, 600), ("mid", "bb", 7, 0), ("west", "aa", 20, 100)))
        self.check(PART, {}, {}, others, ("part", "pa", 5, "east", (("north", "aa", 10), ("south", "cc", 20))))
        self.check(JOIN, {}, {}, others, JOIN)
        self.check(FORFEIT, {}, {}, others, ("forfeit", "fo", 5, "east", "bb"))
        self.check(MEASURE, {}, {}, others, MEASURE)
        self.check(MEND, {}, {}, others, ("mend", "mend", 5, "aa", "bb"))
        self.check(ALONE, {}, {}, others, ("alone", "al", 5, "aa"))
        self.check(BREACH, {}, {}, others, BREACH)
        self.check(VIEW, {}, {}, others, ("view", "vi", 5, "west", 3, "aa"))

    def test_lands_of_idle_rows(self):
        idle = [
            ("part", "a", 1, "gone", (("here", "dan", 3), ("there", "eve", 4))),
            ("join", "b", 1, ("away", "off"), "whole"),
            ("forfeit", "c", 1, "lost", "fay"),
            ("mend", "d", 1, "gil", "hal"),
            ("alone", "e", 1, "ida"),
            ("view", "f", 1, "mid", 9, "jim"),
        ]
        lands = {name: "n" + name for name in ("gone", "here", "there", "away", "off", "whole", "lost", "mid")}
        houses = {name: "n" + name for name in ("dan", "eve", "fay", "gil", "hal", "ida", "jim")}
        told = called(of(*idle), {}, lands, houses)[1]
        self.assertEqual(told, (
            ("part", "a", 1, "ngone", (("nhere", "ndan", 3), ("nthere", "neve", 4))),
            ("join", "b", 1, ("naway", "noff"), "nwhole"),
            ("forfeit", "c", 1, "nlost", "nfay"),
            ("mend", "d", 1, "ngil", "nhal"),
            ("alone", "e", 1, "nida"),
            ("view", "f", 1, "nmid", 9, "njim"),
        ))

    def test_names_change_places(self):
        told = called(ROLL, {"pa": "jo", "jo": "pa"}, {"east": "west", "west": "east"}, {"ann": "bob", "bob": "ann"})
        self.assertEqual(told[0], (("west", "bob", 30, 600), ("mid", "ann", 7, 0), ("east", "bob", 20, 100)))
        self.assertIn(("join", "pa", 5, ("east", "west"), "big"), told[1])
        self.assertIn(("mend", "mend", 5, "bob", "ann"), told[1])
        back = called(told, {"pa": "jo", "jo": "pa"}, {"east": "west", "west": "east"}, {"ann": "bob", "bob": "ann"})
        self.assertEqual(back, ROLL)

    def test_names_in_a_round(self):
        told = called(of(PART), {}, {"east": "mid", "mid": "west", "west": "east"}, {"ann": "cid", "cid": "ann"})
        self.assertEqual([field for field, _, _, _ in told[0]], ["mid", "west", "east"])
        self.assertEqual(told[1], (("part", "pa", 5, "mid", (("north", "cid", 10), ("south", "ann", 20))),))

    def test_rows_parts_and_lands_come_in_order_anew(self):
        told = called(of(PART, JOIN, FORFEIT), {"pa": "a", "fo": "z"}, {"north": "z", "west": "a"}, {})
        self.assertEqual(told[1], (
            ("part", "a", 5, "east", (("south", "cid", 20), ("z", "ann", 10))),
            ("join", "jo", 5, ("a", "east"), "big"),
            ("forfeit", "z", 5, "east", "bob"),
        ))
        self.assertEqual([row[1] for row in called(of(PART, JOIN), {"pa": "z"}, {}, {})[1]], ["jo", "z"])
        self.assertEqual([row[1] for row in called(of(PART, JOIN), {"jo": "z"}, {}, {})[1]], ["pa", "z"])


class Clashes(unittest.TestCase):
    def clashes(self, roll, sort, others):
        dicts = [{}, {}, {}]
        dicts[sort] = others
        with self.assertRaises(Clash):
            untouched(self, called, roll, *dicts)

    def test_values_that_are_no_names(self):
        for thing in things():
            for sort, key in enumerate(("pa", "east", "ann")):
                self.clashes(ROLL, sort, {key: thing})
                self.clashes(ROLL, sort, {"unknown": thing})
                self.clashes(ROLL, sort, {key: "fine", "unknown": thing})
                self.clashes(roll_of(SMALL, []), sort, {key: thing})

    def test_keys_that_are_no_names(self):
        for thing in things():
            try:
                others = {thing: "fine"}
            except TypeError:
                continue
            for sort in range(3):
                self.clashes(ROLL, sort, others)
                self.clashes(ROLL, sort, {"unknown": "well", **others})

    def test_two_that_become_one(self):
        for sort, names in enumerate(names_of(ROLL)):
            for name in names:
                for other in names - {name}:
                    self.clashes(ROLL, sort, {name: other})
                    self.clashes(ROLL, sort, {name: "new", other: "new"})
                    self.clashes(ROLL, sort, {name: other, other: other})
                    dicts = [{}, {}, {}]
                    dicts[sort] = {name: other, other: name}
                    called(ROLL, *dicts)
                    dicts[sort] = {name: other, other: "new"}
                    called(ROLL, *dicts)

    def test_in_many_rolls(self):
        for seed, roll in enumerate(made_rolls(12)):
            chance = Random(seed)
            for sort, names in enumerate(names_of(roll)):
                name, other = chance.sample(sorted(names), 2)
                self.clashes(roll, sort, {name: other})

    def test_alike_in_unlike_sorts(self):
        told = called(ROLL, {"pa": "ann"}, {"east": "pa"}, {"ann": "west"})
        self.assertIn(("part", "ann", 5, "pa", (("north", "west", 10), ("south", "cid", 20))), told[1])
        one = {"pa": "same", "east": "same", "ann": "same"}
        self.assertEqual(called(ROLL, one, one, one)[0][0], ("same", "same", 30, 600))

    def test_what_becomes_a_name_that_the_roll_has_not(self):
        self.assertEqual(called(of(PART), {"jo": "pa"}, {"big": "east"}, {"dan": "ann"}), of(PART))


def rising(names, chance):
    """Other names for these, in the same order."""
    pool = sorted({letters(chance.randrange(17000)) for _ in range(200)} | set(sorted(names)[::2]))
    return dict(zip(sorted(names), sorted(chance.sample(pool, len(names)))))


def mixed(names, chance):
    """Other names for these, in any order."""
    pool = sorted({letters(chance.randrange(17000)) for _ in range(200)} | set(names))
    return dict(zip(sorted(names), chance.sample(pool, len(names))))


class TheSame(unittest.TestCase):
    """Rolls called otherwise, their rows in the order that they had, and the lands of each row in theirs."""

    def made(self, roll, seed):
        chance = Random(seed)
        rows, places, houses = names_of(roll)
        days = len({row[2] for row in roll[1]}) == len(roll[1])
        dicts = [(mixed if days else rising)(rows, chance), rising(places, chance), mixed(houses, chance)]
        told = called(roll, *dicts)
        self.assertEqual([row[2:3] for row in told[1]], [row[2:3] for row in roll[1]])
        self.assertEqual([row[1] for row in told[1]], [dicts[0][row[1]] for row in roll[1]])
        return told, dicts

    def test_words_lands_runs(self):
        for seed, roll in enumerate(made_rolls(18)):
            told, (_, places, houses) = self.made(roll, seed)
            self.assertEqual(words(told), words(roll))
            for at in range(0, 41, 4):
                self.assertEqual(lands(told, at), sorted(
                    (places[land], houses[house], tuple((places[field], low, high) for field, low, high in pieces))
                    for land, house, pieces in lands(roll, at)))
                self.assertEqual(runs(told, at), [
                    (low, high, places[land], houses[house]) for low, high, land, house in runs(roll, at)])
                self.assertEqual(tended(told, at), [
                    (low, high, houses[house]) for low, high, house in tended(roll, at)])

    def test_dues_chains_roads(self):
        for seed, roll in enumerate(made_rolls(9)):
            told, (rows, places, houses) = self.made(roll, seed)
            rows[None] = None
            for row, word in zip(roll[1], words(roll)):
                if row[0] == "breach" and word == "done":
                    self.assertEqual(dues(told, rows[row[1]]), sorted(
                        (houses[house], pence) for house, pence in dues(roll, row[1])))
            for at in range(0, 41, 8):
                for house in sorted(names_of(roll)[2]):
                    self.assertEqual(road(told, at, houses[house]), [houses[one] for one in road(roll, at, house)])
                for field, _, acres, _ in SMALL:
                    for acre in range(acres):
                        self.assertEqual(chain_of_acre(told, at, places[field], acre), [
                            (rows[row], places[land], houses[house])
                            for row, land, house in chain_of_acre(roll, at, field, acre)])

    def test_reach_and_burdens(self):
        for seed in range(60):
            roll, at, names, weights, reach = made_question(seed)
            rows, places, houses = (sorted(some) for some in names_of(roll))
            chance = Random(seed)
            others = rising(rows, chance)
            anew = mixed(set(houses) | set(weights), chance)
            told = called(roll, others, rising(places, chance), anew)
            new_names = [others[name] for name in names]
            new_weights = {anew[house]: many for house, many in weights.items()}
            self.assertEqual(reached(told, at, new_names, reach), sorted(
                (anew[house], others[name]) for house, name in reached(roll, at, names, reach)))
            self.assertEqual(least(told, at, new_names, new_weights, reach)[:-1][:2],
                             least(roll, at, names, weights, reach)[:-1][:2])

    def test_inches(self):
        roll = of(PART, BREACH)
        told = called(roll, {"pa": "x"}, {"east": "o", "north": "p", "south": "q"}, {"cid": "ann", "ann": "cid"})
        self.assertEqual(chain(told, 1, "o", 599), [(None, "o", "cid"), ("x", "q", "ann")])


class Own(unittest.TestCase):
    def test_what_was_told_stays(self):
        dicts = [{"pa": "x"}, {"east": "o"}, {"ann": "a"}]
        told = called(ROLL, *dicts)
        kept = listed(told)
        for others in dicts:
            others.clear()
        self.assertEqual(listed(told), kept)
        self.assertEqual(called(ROLL, {}, {}, {}), ROLL)
