import unittest
from random import Random

from dykelengths.callings import calling, shows_calling, shows_short
from dykelengths.errors import NoBreach, NoInch, NoName
from dykelengths.reach import needs, reached
from dykelengths.rolls import roll_of
from tests.helper import cells, gap, letters, listed, lots, made_question, meets, nested, put, shape, things, untouched

# Places 0 to 9 ann's, 10 to 19 bob's, 20 to 29 cid's; x at 9, y at 10, z at 25.
LAYING = (("a", "ann", 10, 10), ("b", "bob", 5, 10), ("c", "cid", 3, 10))
ROWS = (
    ("breach", "x", 3, "a", 9, 50, 3),
    ("breach", "y", 3, "b", 0, 50, 2),
    ("breach", "z", 3, "c", 5, 50, 4),
    ("breach", "o", 3, "c", 5, 50, 0),
)
ROLL = roll_of(LAYING, ROWS)
NAMES = ["x", "y", "z", "o"]


def called(names, spades, reach=1):
    return calling(ROLL, 4, names, spades, reach)


def ladder(many):
    """Houses side by side, a breach at each border, which reach 1 opens to both beside it; told with its needs."""
    laying = [(letters(number), "h" + letters(number), 10, 10) for number in range(many)]
    wanted = [10 ** 6 - number for number in range(many - 1)]
    rows = [("breach", "b" + letters(number), 1, letters(number), 9, 0, need) for number, need in enumerate(wanted)]
    return roll_of(laying, rows), wanted


class Calls(unittest.TestCase):
    def test_calls(self):
        told = untouched(self, calling, ROLL, 4, NAMES, {"ann": 5, "bob": 0, "cid": 9}, 1)
        self.assertEqual(shape(told), shape(("calls", [("ann", "x", 3), ("ann", "y", 2), ("cid", "z", 4)])))

    def test_short(self):
        told = untouched(self, calling, ROLL, 4, NAMES, {"ann": 5, "bob": 0, "cid": 3}, 1)
        self.assertEqual(shape(told), shape(("short", ["z"])))
        told = called(["x", "y"], {"ann": 2, "bob": 2, "cid": 1000})
        self.assertEqual(told, ("short", ["x", "y"]))

    def test_no_names(self):
        for spades in ({}, {"ann": 5}):
            self.assertEqual(shape(untouched(self, calling, ROLL, 4, [], spades, 0)), shape(("calls", [])))
            self.assertIs(shows_calling(ROLL, 4, [], spades, 0, []), True)
            self.assertIs(shows_short(ROLL, 4, [], spades, 0, []), False)

    def test_needs_of_nothing(self):
        self.assertEqual(called(["o"], {}), ("calls", []))
        self.assertIs(shows_calling(ROLL, 4, ["o"], {}, 1, []), True)
        self.assertIs(shows_calling(ROLL, 4, ["o"], {"cid": 9}, 1, [("cid", "o", 1)]), False)
        self.assertIs(shows_short(ROLL, 4, ["o"], {}, 1, ["o"]), False)
        self.assertEqual(called(["o", "z"], {"ann": 100})[0], "short")

    def test_houses_without_spades(self):
        for spades in ({}, {"ann": 0}, {"ann": 0, "bob": 0, "cid": 0}, {"nobody": 10 ** 9}, {"cid": 10 ** 9}):
            told = called(["x", "y"], spades)
            self.assertEqual(told[0], "short")
            self.assertIs(shows_short(ROLL, 4, ["x", "y"], spades, 1, told[1]), True)

    def test_spades_just_enough(self):
        for ann in range(7):
            for bob in range(7):
                for cid in (3, 4, 10 ** 9):
                    told = called(NAMES, {"ann": ann, "bob": bob, "cid": cid})
                    self.assertEqual(told[0], "calls" if ann + bob >= 5 and cid >= 4 else "short", (ann, bob, cid))

    def test_by_who_tends(self):
        roll = roll_of(LAYING, ROWS + (("mend", "m", 4, "ann", "dan"),))
        self.assertEqual(calling(roll, 5, ["x"], {"ann": 9, "dan": 3}, 0), ("calls", [("dan", "x", 3)]))
        self.assertEqual(calling(roll, 5, ["x"], {"ann": 9, "dan": 2}, 0), ("short", ["x"]))

    def test_against_trying_all_lots(self):
        seen = {"calls": 0, "short": 0}
        for seed in range(150):
            roll, at, names, spades, reach = made_question(seed)
            wanted, pairs = needs(roll, at, names), reached(roll, at, names, reach)
            word, paper = untouched(self, calling, roll, at, names, spades, reach)
            short = [lot for lot in lots(names) if gap(wanted, pairs, spades, lot) > 0]
            if word == "calls":
                self.assertEqual(short, [], seed)
                self.assertTrue(meets(wanted, spades, paper))
                self.assertEqual(paper, sorted(paper))
                self.assertTrue({call[:2] for call in paper} <= set(pairs))
                self.assertEqual(len({call[:2] for call in paper}), len(paper))
                self.assertTrue(all(call[2] > 0 for call in paper))
            else:
                self.assertEqual(word, "short")
                self.assertIn(paper, short, seed)
            seen[word] += 1
        self.assertGreater(min(seen.values()), 40)

    def test_never_both(self):
        for seed in range(150):
            roll, at, names, spades, reach = made_question(seed)
            word, paper = calling(roll, at, names, spades, reach)
            question = (roll, at, names, spades, reach)
            self.assertIs(shows_calling(*question, paper), word == "calls")
            self.assertIs(shows_short(*question, paper), word == "short")
            if len(names) < 5:
                told = [shows_short(*question, lot) for lot in lots(names)]
                self.assertIs(any(told), word == "short")

    def test_spades_that_must_be_sent_on(self):
        # Each house has just what makes it all come out when the first one gives all that it has to its one breach.
        for many in range(2, 9):
            roll, wanted = ladder(many)
            names = ["b" + letters(number) for number in range(many - 1)]
            spades = {"h" + letters(number): need for number, need in enumerate(wanted)}
            told = calling(roll, many - 1, names, spades, 1)
            whole = [("h" + letters(number), "b" + letters(number), need) for number, need in enumerate(wanted)]
            self.assertEqual(told, ("calls", whole))
            for seed in range(10):
                mixed = Random(seed).sample(names, many - 1)
                self.assertEqual(calling(roll, many - 1, mixed, spades, 1), ("calls", whole))
            for house in spades:
                less = dict(spades, **{house: spades[house] - 1})
                word, lot = calling(roll, many - 1, names[::-1], less, 1)
                self.assertEqual(word, "short")
                self.assertIs(shows_short(roll, many - 1, names, less, 1, lot), True)

    def test_many_spades_at_once(self):
        laying = tuple((field, "ann", 10 ** 6, 10 ** 7) for field in "abcd")
        rows = []
        for number in range(26):
            parts = [(name + letters(number), "h" + name + letters(number), 10) for name in "efghi"]
            rows.append(("part", "p" + letters(number), 1, "a", parts + [("a", "ann", 10 ** 6 - 50 * number - 50)]))
        rows += [("breach", "b" + letters(number), 2, "a", 1000 * number, 0, 10 ** 6 - number) for number in range(12)]
        roll, names = roll_of(laying, rows), ["b" + letters(number) for number in range(12)]
        houses = sorted({house for house, _ in reached(roll, 38, names, 10 ** 9)})
        self.assertGreater(len(houses), 120)
        for reach in (100, 1000, 5000, 10 ** 9):
            for spades in ({house: 10 ** 9 for house in houses}, {house: 99991 + at for at, house in enumerate(houses)},
                           {house: 10 ** 4 for house in houses}, {house: at % 3 * 10 ** 5 for at, house in enumerate(houses)}):
                word, paper = calling(roll, 38, names, spades, reach)
                shows = shows_calling if word == "calls" else shows_short
                self.assertIs(shows(roll, 38, names, spades, reach, paper), True)

    def test_what_was_told_is_the_askers_own(self):
        for spades in ({"ann": 5, "cid": 9}, {}):
            first, kept = called(NAMES, spades), called(NAMES, spades)
            first[1].clear()
            self.assertEqual(called(NAMES, spades), kept)
            self.assertIs(shows_calling(ROLL, 4, NAMES, spades, 1, first[1]), False)


class ShowsCalling(unittest.TestCase):
    SPADES = {"ann": 4, "bob": 4, "cid": 5}

    def shown(self, names, spades, thing, reach=1):
        told = untouched(self, shows_calling, ROLL, 4, names, spades, reach, thing)
        self.assertIn(shape(told), (shape(True), shape(False)))
        return told

    def test_every_calling_whoever_wrote_it(self):
        wanted, pairs = needs(ROLL, 4, ["x", "y"]), reached(ROLL, 4, ["x", "y"], 1)
        for spades in ({"ann": 4, "bob": 2}, {"ann": 1, "bob": 4}, {"ann": 9, "bob": 9}, {"ann": 9}, {"ann": 1}):
            told = [self.shown(["x", "y"], spades, row) for row in cells(wanted, pairs)]
            self.assertEqual(told, [meets(wanted, spades, row) for row in cells(wanted, pairs)])
            self.assertIs(any(told), sum(spades.values()) > 4)

    def test_bent_callings(self):
        own = [("ann", "x", 2), ("ann", "y", 1), ("bob", "x", 1), ("bob", "y", 1), ("cid", "z", 4)]
        self.assertIs(self.shown(NAMES, self.SPADES, own), True)
        bent = [tuple(own), listed(tuple(own)), own[::-1], [own], (own,), own * 2, {"calls": own}, dict(enumerate(own)),
                ("calls", own), own + [("cid", "o", 0)], own + [("cid", "z", 1)], own + [("cid", "o", 1)],
                own[:4] + [("bob", "z", 4)], own[:4] + [("cid", "q", 4)], own[:4] + [("cid", "z", 2), ("cid", "z", 2)],
                [("ann", "x", 4)] + own[1:], [("ann", "x", 3)] + own[1:], [("ann", "x", 1)] + own[1:],
                [("ann", "x", 3), ("ann", "y", 2)] + own[4:], own[:4] + [("dan", "z", 4)], own[:4] + [("cid", "z", 5)]]
        for at, call in enumerate(own):
            bent += [own[:at] + own[at + 1:], own[:at] + [call] + own[at:], own[:at]]
            bent += [own[:at] + [after, call] + own[at + 2:] for after in own[at + 1:at + 2]]
            for thing in things() + [list(call), call + (1,), call[:2], put(call, 2, 0), put(call, 2, -call[2])]:
                bent.append(own[:at] + [thing] + own[at + 1:])
            for place in range(3):
                for thing in things() + ["cid", "o", "nobody", 3]:
                    if shape(thing) != shape(call[place]):
                        bent.append(own[:at] + [put(call, place, thing)] + own[at + 1:])
        for thing in bent:
            self.assertIs(self.shown(NAMES, self.SPADES, thing), False, repr(thing)[:100])

    def test_pairs_twice_that_come_to_the_same(self):
        spades = {"ann": 9}
        self.assertIs(self.shown(["x"], spades, [("ann", "x", 3)]), True)
        for thing in ([("ann", "x", 1), ("ann", "x", 2)], [("ann", "x", 3), ("ann", "x", 0)], [("ann", "x", 0), ("ann", "x", 3)],
                      [("ann", "x", 4), ("ann", "x", -1)], [("ann", "x", -1), ("ann", "x", 4)]):
            self.assertIs(self.shown(["x"], spades, thing), False)

    def test_none_beside_enough(self):
        spades = {"ann": 9, "bob": 9}
        for many in (0, -1, False):
            self.assertIs(self.shown(["x"], spades, [("ann", "x", 3), ("bob", "x", many)]), False)
            self.assertIs(self.shown(["x"], spades, [("ann", "x", many), ("bob", "x", 3)]), False)
        self.assertIs(self.shown(["x"], spades, [("ann", "x", 4), ("bob", "x", -1)]), False)
        self.assertIs(self.shown(["o"], {"cid": 9}, [("cid", "o", 0)]), False)

    def test_the_order_is_by_houses_then_breaches(self):
        spades = {"ann": 9, "bob": 9}
        rising = [("ann", "x", 1), ("ann", "y", 2), ("bob", "x", 2)]
        self.assertIs(self.shown(["x", "y"], spades, rising), True)
        for thing in ([rising[1], rising[0], rising[2]], [rising[0], rising[2], rising[1]], [rising[2], rising[0], rising[1]]):
            self.assertIs(self.shown(["x", "y"], spades, thing), False)

    def test_more_than_a_house_has(self):
        for ann, told in ((2, False), (3, True), (10 ** 9, True)):
            self.assertIs(self.shown(["x"], {"ann": ann, "bob": 10 ** 9}, [("ann", "x", 3)]), told)
        self.assertIs(self.shown(["x"], {"bob": 10 ** 9}, [("ann", "x", 3)]), False)

    def test_a_house_that_does_not_reach(self):
        self.assertIs(self.shown(["x"], {"bob": 9}, [("bob", "x", 3)], 1), True)
        self.assertIs(self.shown(["x"], {"bob": 9}, [("bob", "x", 3)], 0), False)
        self.assertIs(self.shown(["x"], {"cid": 9}, [("cid", "x", 3)], 10), False)
        self.assertIs(self.shown(["x"], {"cid": 9}, [("cid", "x", 3)], 11), True)

    def test_a_breach_that_is_not_asked_of(self):
        self.assertIs(self.shown(["x"], {"ann": 9}, [("ann", "x", 3), ("ann", "y", 2)]), False)
        self.assertIs(self.shown(["x", "y"], {"ann": 9}, [("ann", "x", 3)]), False)

    def test_a_truth_in_the_place_of_one(self):
        roll = roll_of(LAYING, [("breach", "x", 1, "a", 0, 0, 1)])
        for thing, told in (([("ann", "x", 1)], True), ([("ann", "x", True)], False), ([("ann", "x", False)], False)):
            self.assertIs(shows_calling(roll, 1, ["x"], {"ann": 5}, 0, thing), told)

    def test_whatever_thing(self):
        for thing in things() + [nested(list, 60), [nested(tuple, 59)], "calls", [["ann", "x", 3]]]:
            self.assertIs(self.shown(NAMES, self.SPADES, thing), False, repr(thing)[:60])
            self.assertIs(self.shown(["o"], {}, thing), thing == [] and isinstance(thing, list), repr(thing)[:60])


class ShowsShort(unittest.TestCase):
    def shown(self, names, spades, thing, reach=1):
        told = untouched(self, shows_short, ROLL, 4, names, spades, reach, thing)
        self.assertIn(shape(told), (shape(True), shape(False)))
        return told

    def test_every_lot_whoever_wrote_it(self):
        for reach in (0, 1, 10, 15, 40):
            wanted, pairs = needs(ROLL, 4, NAMES), reached(ROLL, 4, NAMES, reach)
            for spades in ({}, {"ann": 2}, {"ann": 3, "bob": 1, "cid": 3}, {"ann": 3, "bob": 2, "cid": 4}, {"bob": 10 ** 9}):
                for lot in lots(NAMES):
                    told = gap(wanted, pairs, spades, lot) > 0
                    self.assertIs(self.shown(NAMES, spades, lot, reach), told, (reach, spades, lot))

    def test_as_many_as_needed_is_not_short(self):
        self.assertIs(self.shown(["z"], {"cid": 4}, ["z"]), False)
        self.assertIs(self.shown(["z"], {"cid": 3}, ["z"]), True)
        # A house that reaches two of them counts once.
        self.assertIs(self.shown(["x", "y"], {"ann": 2, "bob": 2}, ["x", "y"]), True)
        self.assertIs(self.shown(["x", "y"], {"ann": 2, "bob": 3}, ["x", "y"]), False)

    def test_bent_lots(self):
        own = ["o", "x", "y", "z"]
        self.assertIs(self.shown(NAMES, {}, own), True)
        bent = [tuple(own), own[::-1], own + ["z"], own * 2, [own], {"short": own}, ("short", own), dict.fromkeys(own),
                ["x", "x"], ["y", "x"], ["q"], ["x", "q"], ["ann", "x"], []]
        for at in range(4):
            bent += [own[:at] + [thing] + own[at + 1:] for thing in things() + ["nobody", [own[at]], (own[at],)]]
        for thing in bent:
            self.assertIs(self.shown(NAMES, {}, thing), False, repr(thing)[:60])
        self.assertIs(self.shown(["x", "y"], {}, ["x", "z"]), False)

    def test_whatever_thing(self):
        for thing in things() + [nested(list, 60), "short", "x", ("x",), {"x": 1}, 3]:
            self.assertIs(self.shown(NAMES, {}, thing), False, repr(thing)[:60])


class Refused(unittest.TestCase):
    ROWS = ROWS + (("breach", "idle", 1, "c", 99, 5, 5), ("view", "vi", 1, "a", 0, "ann"), ("measure", "me", 9, "c", 5))
    ROLL = roll_of(LAYING, ROWS)

    def test_as_reach_refuses_whatever_the_thing(self):
        for names, refusal in ((["nobody"], NoName), (["", "vi"], NoName), (["vi", "nobody"], NoBreach), (["idle"], NoBreach),
                               (["z", "vi"], NoInch), (["x", "z"], NoInch), (["x", "y", "o", "idle"], NoInch)):
            with self.assertRaises(refusal, msg=names):
                untouched(self, calling, self.ROLL, 7, names, {"ann": 5}, 1)
            for thing in things() + [("calls", []), ["x"], [("ann", "x", 3)]]:
                for shows in (shows_calling, shows_short):
                    with self.assertRaises(refusal, msg=names):
                        untouched(self, shows, self.ROLL, 7, names, {"ann": 5}, 1, thing)

    def test_names_of_rows_behind_the_moment(self):
        ahead = [row[1] for row in self.ROLL[1]].index("y")
        with self.assertRaises(NoName):
            calling(self.ROLL, ahead, ["y"], {}, 1)
        self.assertEqual(calling(self.ROLL, ahead + 1, ["y"], {"bob": 2}, 0), ("calls", [("bob", "y", 2)]))
