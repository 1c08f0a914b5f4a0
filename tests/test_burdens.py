import unittest

from dykelengths.burdens import least, shows_least
from dykelengths.callings import calling, shows_calling, shows_short
from dykelengths.errors import NoBreach, NoInch, NoName
from dykelengths.reach import needs, reached
from dykelengths.rolls import roll_of
from tests.helper import cells, gap, letters, listed, lots, made_question, meets, nested, put, shape, things, untouched

# Places 0 to 9 ann's, 10 to 19 bob's, 20 to 29 cid's; x at 9, y at 10, z at 25.
LAYING = (("a", "ann", 10, 10), ("b", "bob", 5, 10), ("c", "cid", 3, 10))
ROWS = (
    ("breach", "x", 3, "a", 9, 50, 3),
    ("breach", "y", 3, "b", 0, 50, 2),
    ("breach", "z", 3, "c", 5, 50, 4),
    ("breach", "o", 3, "c", 5, 50, 0),
)
ROLL = roll_of(LAYING, ROWS)
NAMES = ["x", "y", "z", "o"]


def burdened(weights, burden):
    return {house: weight * burden for house, weight in weights.items()}


def weights_of(seed, spades):
    """Small weights in the place of the spades, some 0."""
    return {house: (many + seed + at) % 4 for at, (house, many) in enumerate(spades.items())}


class Least(unittest.TestCase):
    def test_least(self):
        told = untouched(self, least, ROLL, 4, ["x", "y", "z"], {"ann": 1, "bob": 1, "cid": 3}, 1)
        self.assertEqual(told[:2], ("least", 3))
        self.assertEqual(told[3], ["x", "y"])
        self.assertIs(shows_calling(ROLL, 4, ["x", "y", "z"], {"ann": 3, "bob": 3, "cid": 9}, 1, told[2]), True)
        told = least(ROLL, 4, ["x"], {"ann": 2}, 1)
        self.assertEqual(shape(told), shape(("least", 2, [("ann", "x", 3)], ["x"])))

    def test_no_burden_where_nothing_is_needed(self):
        for names in ([], ["o"]):
            for weights in ({}, {"ann": 0}, {"cid": 5}):
                told = untouched(self, least, ROLL, 4, names, weights, 1)
                self.assertEqual(shape(told), shape(("least", 0, [], None)))
                self.assertIs(shows_least(ROLL, 4, names, weights, 1, told), True)

    def test_never(self):
        for weights in ({}, {"cid": 0}, {"ann": 9, "bob": 9}, {"cid": 0, "nobody": 10 ** 9}):
            told = untouched(self, least, ROLL, 4, ["z"], weights, 1)
            self.assertEqual(shape(told), shape(("never", ["z"])))
        self.assertEqual(least(ROLL, 4, ["x", "y", "z"], {"ann": 1}, 1), ("never", ["z"]))
        told = least(ROLL, 4, NAMES, {}, 1)
        self.assertEqual(told[0], "never")
        self.assertIs(shows_least(ROLL, 4, NAMES, {}, 1, told), True)

    def test_weights_of_nothing_beside_others(self):
        # bob reaches y, but weighs nothing: ann bears all.
        for weights in ({"ann": 1, "bob": 0}, {"ann": 1}):
            self.assertEqual(least(ROLL, 4, ["x", "y"], weights, 1)[:2], ("least", 5))
            self.assertEqual(least(ROLL, 4, ["x", "y"], weights, 0), ("never", ["y"]))

    def test_against_small_burdens_tried_one_by_one(self):
        seen = {"least": 0, "never": 0}
        for seed in range(200):
            roll, at, names, spades, reach = made_question(seed)
            weights, wanted = weights_of(seed, spades), needs(roll, at, names)
            if sum(wanted.values()) > 60:
                continue
            told = untouched(self, least, roll, at, names, weights, reach)
            words = [calling(roll, at, names, burdened(weights, burden), reach)[0] for burden in range(62)]
            self.assertEqual(told[0], "least" if "calls" in words else "never", seed)
            if told[0] == "least":
                self.assertEqual(told[1], words.index("calls"), seed)
            seen[told[0]] += 1
        self.assertGreater(min(seen.values()), 30)

    def test_it_is_shown(self):
        great = 0
        for seed in range(250):
            roll, at, names, spades, reach = made_question(seed)
            for weights in (weights_of(seed, spades), spades):
                told = least(roll, at, names, weights, reach)
                self.assertIs(shows_least(roll, at, names, weights, reach, told), True, seed)
                wanted, pairs = needs(roll, at, names), reached(roll, at, names, reach)
                if told[0] == "never":
                    self.assertGreater(sum(wanted[breach] for breach in told[1]), 0)
                    self.assertEqual(gap({breach: 0 for breach in wanted}, pairs, weights, told[1]), 0)
                    continue
                burden, paper, lot = told[1:]
                self.assertTrue(meets(wanted, burdened(weights, burden), paper))
                self.assertIs(shows_calling(roll, at, names, burdened(weights, burden), reach, paper), True)
                self.assertEqual(lot is None, burden == 0)
                if lot is not None:
                    self.assertGreater(gap(wanted, pairs, burdened(weights, burden - 1), lot), 0)
                    self.assertIs(shows_short(roll, at, names, burdened(weights, burden - 1), reach, lot), True)
                great += burden > 1000
        self.assertGreater(great, 10)

    def test_lots_one_within_another(self):
        # Each border's breach has less to draw on than the one ahead: the burden rises lot by lot.
        laying = [(letters(number), "h" + letters(number), 10, 10) for number in range(8)]
        rows = [("breach", "b" + letters(number), 1, letters(number), 5, 0, 10 ** 6) for number in range(8)]
        roll, names = roll_of(laying, rows), [row[1] for row in rows]
        weights = {"h" + letters(number): 10 ** number for number in range(8)}
        told = least(roll, 8, names, weights, 0)
        self.assertEqual((told[:2], told[3]), (("least", 10 ** 6), ["baaa"]))
        told = least(roll, 8, names, weights, 10)
        self.assertEqual(told[:2], ("least", -(-10 ** 6 // 11)))
        self.assertIs(shows_least(roll, 8, names, weights, 10, told), True)

    def test_great_needs_and_weights_at_once(self):
        rows = [put(row, 6, 10 ** 6) for row in ROWS]
        roll = roll_of(LAYING, rows)
        for _ in range(50):
            self.assertEqual(least(roll, 4, NAMES, {"ann": 1, "bob": 0, "cid": 1}, 1)[1], 2 * 10 ** 6)
            self.assertEqual(least(roll, 4, NAMES, {"ann": 10 ** 9, "bob": 1, "cid": 10 ** 9}, 1)[1], 1)
            self.assertEqual(least(roll, 4, ["x"], {"bob": 1}, 1), ("least", 10 ** 6, [("bob", "x", 10 ** 6)], ["x"]))
            self.assertEqual(least(roll, 4, ["x"], {"bob": 7}, 1)[1], 142858)
        huge = 10 ** 59
        roll = (LAYING, tuple(put(row, 6, huge) for row in roll[1]))
        self.assertEqual(least(roll, 4, ["x", "y"], {"ann": 3, "bob": 4}, 1)[1], -(-2 * huge // 7))

    def test_what_was_told_is_the_askers_own(self):
        for names, weights in ((["x"], {"ann": 1}), (["z"], {})):
            first, kept = least(ROLL, 4, names, weights, 1), least(ROLL, 4, names, weights, 1)
            first[-1].clear()
            self.assertEqual(least(ROLL, 4, names, weights, 1), kept)


class ShowsLeast(unittest.TestCase):
    def shown(self, names, weights, thing, reach=1):
        told = untouched(self, shows_least, ROLL, 4, names, weights, reach, thing)
        self.assertIn(shape(told), (shape(True), shape(False)))
        return told

    def test_any_such_tuple_whoever_wrote_it(self):
        names = ["o", "x", "y"]
        wanted, pairs = needs(ROLL, 4, names), reached(ROLL, 4, names, 1)
        for weights in ({"ann": 1, "bob": 1}, {"ann": 2, "bob": 1, "cid": 0}, {"ann": 9}, {"cid": 5}, {"bob": 5}, {"ann": 3, "bob": 2}):
            burdens = [burden for burden in range(8)
                       if all(gap(wanted, pairs, burdened(weights, burden), lot) <= 0 for lot in lots(names))]
            own = burdens[0] if burdens else None
            some = 0
            for burden in range(8):
                spades, less = burdened(weights, burden), burdened(weights, burden - 1)
                for row in cells(wanted, pairs):
                    for lot in lots(names) + [None]:
                        right = burden == own and meets(wanted, spades, row) and (
                            lot is None if burden == 0 else lot is not None and gap(wanted, pairs, less, lot) > 0)
                        self.assertIs(shows_least(ROLL, 4, names, weights, 1, ("least", burden, row, lot)), right)
                        some += right
            self.assertEqual(some > 0, own is not None)

    def test_any_lot_that_never_is_met(self):
        for weights in ({}, {"ann": 1}, {"cid": 1}, {"cid": 0, "bob": 2}, {"ann": 1, "bob": 1, "cid": 1}):
            for reach in (0, 1, 15):
                wanted, pairs = needs(ROLL, 4, NAMES), reached(ROLL, 4, NAMES, reach)
                for lot in lots(NAMES):
                    weighed = [weights.get(house, 0) for house, breach in pairs if breach in lot]
                    right = not any(weighed) and any(wanted[breach] for breach in lot)
                    self.assertIs(self.shown(NAMES, weights, ("never", lot), reach), right)

    def test_another_calling_and_another_lot(self):
        weights = {"ann": 2, "bob": 2, "cid": 2}
        for paper in ([("ann", "x", 3), ("bob", "y", 2), ("cid", "z", 4)],
                      [("ann", "x", 2), ("ann", "y", 2), ("bob", "x", 1), ("cid", "z", 4)]):
            for lot in (["x", "y"], ["z"], ["o", "z"], ["o", "x", "y", "z"]):
                self.assertIs(self.shown(NAMES, weights, ("least", 2, paper, lot)), True)
            self.assertIs(self.shown(NAMES, weights, ("least", 2, paper, ["x", "z"])), True)
            self.assertIs(self.shown(NAMES, weights, ("least", 2, paper, ["x"])), False)

    def test_a_burden_one_more_or_one_less(self):
        weights = {"ann": 2, "bob": 2, "cid": 2}
        own = least(ROLL, 4, NAMES, weights, 1)
        self.assertEqual(own[1], 2)
        self.assertIs(self.shown(NAMES, weights, own), True)
        for burden in (0, 1, 3, 4, -1, -2, 10 ** 59):
            self.assertIs(self.shown(NAMES, weights, put(own, 1, burden)), False)

    def test_burdens_of_nothing(self):
        self.assertIs(self.shown(["o"], {}, ("least", 0, [], None)), True)
        for thing in (("least", 0, [], []), ("least", 0, [], ["o"]), ("least", False, [], None), ("least", 1, [], None),
                      ("least", 1, [], ["o"]), ("least", 1, [], []), ("least", -1, [], None), ("least", 0, (), None),
                      ("least", 0, None, None), ("never", []), ("never", ["o"]), ("least", 0, []), ["least", 0, [], None],
                      ("least", 0, [], False), ("least", 0, [], 0)):
            self.assertIs(self.shown(["o"], {}, thing), False, thing)
            self.assertIs(self.shown(["o"], {"cid": 5}, thing), False, thing)
        # With less than nothing even what needs nothing would be short.
        self.assertIs(self.shown(["o"], {"cid": 5}, ("least", 0, [], ["o"])), False)
        self.assertIs(self.shown(["o"], {"cid": 5}, ("least", -1, [], ["o"])), False)

    def test_a_truth_in_the_place_of_one(self):
        own = ("least", 1, [("ann", "x", 3)], ["x"])
        self.assertIs(self.shown(["x"], {"ann": 3}, own), True)
        self.assertIs(self.shown(["x"], {"ann": 3}, put(own, 1, True)), False)
        roll = roll_of(LAYING, [("breach", "x", 1, "a", 0, 0, 1)])
        for many, told in ((1, True), (True, False)):
            self.assertIs(shows_least(roll, 1, ["x"], {"ann": 1}, 0, ("least", 1, [("ann", "x", many)], ["x"])), told)

    def test_bent_at_every_place(self):
        weights = {"ann": 2, "bob": 2, "cid": 2}
        own = ("least", 2, [("ann", "x", 3), ("bob", "y", 2), ("cid", "z", 4)], ["x", "y"])
        self.assertIs(self.shown(NAMES, weights, own), True)
        bent = [list(own), listed(own), own[:3], own + (None,), own[::-1], (own,), [own], own * 2, ("never", own[3]),
                put(own, 0, "never"), put(own, 0, "calls"), put(own, 3, None), (own[0], own[1], own[3], own[2])]
        for place in range(4):
            bent += [put(own, place, thing) for thing in things() + ["ann", ["y", "x"], ["x", "x"], ["x", "y", "q"], ("x", "y")]]
        for at, call in enumerate(own[2]):
            for thing in (put(call, 2, call[2] + 1), put(call, 2, call[2] - 1), put(call, 0, "dan"), put(call, 1, "o"), list(call)):
                bent.append(put(own, 2, own[2][:at] + [thing] + own[2][at + 1:]))
            bent.append(put(own, 2, own[2][:at] + own[2][at + 1:]))
        bent += [put(own, 2, own[2][::-1]), put(own, 2, tuple(own[2])), put(own, 2, own[2] * 2)]
        for thing in bent:
            self.assertIs(self.shown(NAMES, weights, thing), False, repr(thing)[:100])

    def test_bent_never(self):
        own = ("never", ["o", "z"])
        weights = {"ann": 1}
        self.assertIs(self.shown(NAMES, weights, own), True)
        self.assertIs(self.shown(NAMES, weights, ("never", ["z"])), True)
        bent = [list(own), own[:1], own + (None,), own[::-1], (own,), put(own, 0, "short"), put(own, 0, "least"),
                ("never", ("o", "z")), ("never", ["z", "o"]), ("never", ["z", "z"]), ("never", ["o"]), ("never", []),
                ("never", ["x", "z"]), ("never", ["q", "z"]), ("never", None), ("never", "z"), ("never", {"z": 4}),
                ("least", 0, [], None), ("never", ["z", None]), ("never", [["z"]])]
        for place in range(2):
            bent += [put(own, place, thing) for thing in things()]
        for thing in bent:
            self.assertIs(self.shown(NAMES, weights, thing), False, repr(thing)[:100])

    def test_whatever_thing(self):
        for thing in things() + [nested(tuple, 60), ("least",), ("never",), (None,) * 4, (None,) * 2, ([], [], [], []), ({}, {})]:
            for names, weights in ((NAMES, {"ann": 1, "cid": 1}), (NAMES, {}), (["o"], {})):
                self.assertIs(self.shown(names, weights, thing), False, repr(thing)[:60])


class Refused(unittest.TestCase):
    ROLL = roll_of(LAYING, ROWS + (("breach", "idle", 1, "c", 99, 5, 5), ("view", "vi", 1, "a", 0, "ann"), ("measure", "me", 9, "c", 5)))

    def test_as_reach_refuses_whatever_the_thing(self):
        for names, refusal in ((["nobody"], NoName), (["", "vi"], NoName), (["vi", "nobody"], NoBreach), (["idle"], NoBreach),
                               (["z", "vi"], NoInch), (["x", "z"], NoInch), (["x", "y", "o", "idle"], NoInch)):
            for weights in ({}, {"ann": 5, "cid": 1}):
                with self.assertRaises(refusal, msg=names):
                    untouched(self, least, self.ROLL, 7, names, weights, 1)
                for thing in things() + [("least", 0, [], None), ("never", ["x"])]:
                    with self.assertRaises(refusal, msg=names):
                        untouched(self, shows_least, self.ROLL, 7, names, weights, 1, thing)
