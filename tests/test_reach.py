import unittest
from itertools import permutations

from dykelengths.errors import NoBreach, NoInch, NoName
from dykelengths.feet import bearer
from dykelengths.lands import words
from dykelengths.menders import mends
from dykelengths.reach import needs, reached
from dykelengths.rolls import roll_of
from tests.helper import letters, made_rolls, moments, put, shape, things, untouched

# Ten inches each but for the third: places 0 to 9 ann's, 10 to 19 bob's, 20 to 29 dan's, 30 to 39 ann's.
LAYING = (("a", "ann", 10, 10), ("b", "bob", 5, 10), ("c", "cid", 7, 0), ("d", "dan", 3, 10), ("e", "ann", 10, 10))
BREACHES = (
    ("breach", "x", 3, "a", 9, 50, 7),
    ("breach", "y", 4, "b", 4, 50, 0),
    ("breach", "z", 5, "e", 9, 50, 10 ** 6),
)
ROLL = roll_of(LAYING, BREACHES)


def asked(roll, at, names, reach):
    """Both of what is asked with names, as one: they must refuse alike."""
    try:
        told = needs(roll, at, names)
    except (NoName, NoBreach, NoInch) as refusal:
        kind = refusal.__class__
        try:
            reached(roll, at, names, reach)
        except kind:
            raise kind("both refuse so") from None
        raise AssertionError("needs refuses, reached doesn't") from None
    return told, reached(roll, at, names, reach)


class Reached(unittest.TestCase):
    def test_reach_just_enough_and_one_less(self):
        # x is at place 9, y at 14, z at 39.
        for reach, told in (
            (0, [("ann", "x"), ("ann", "z"), ("bob", "y")]),
            (1, [("ann", "x"), ("ann", "z"), ("bob", "x"), ("bob", "y")]),
            (4, [("ann", "x"), ("ann", "z"), ("bob", "x"), ("bob", "y")]),
            (5, [("ann", "x"), ("ann", "y"), ("ann", "z"), ("bob", "x"), ("bob", "y")]),
            (6, [("ann", "x"), ("ann", "y"), ("ann", "z"), ("bob", "x"), ("bob", "y"), ("dan", "y")]),
            (9, [("ann", "x"), ("ann", "y"), ("ann", "z"), ("bob", "x"), ("bob", "y"), ("dan", "y")]),
            (10, [("ann", "x"), ("ann", "y"), ("ann", "z"), ("bob", "x"), ("bob", "y"), ("dan", "y"), ("dan", "z")]),
        ):
            self.assertEqual(shape(untouched(self, reached, ROLL, 3, ["x", "y", "z"], reach)), shape(told), reach)
        everything = [(house, name) for house in ("ann", "bob", "dan") for name in "xyz"]
        for reach in (20, 39, 10 ** 9, 10 ** 59):
            self.assertEqual(reached(ROLL, 3, ["x", "y", "z"], reach), everything)
        self.assertEqual(reached(ROLL, 3, ["z"], 19), [("ann", "z"), ("dan", "z")])
        self.assertEqual(reached(ROLL, 3, ["z"], 20), [("ann", "z"), ("bob", "z"), ("dan", "z")])

    def test_in_whatever_order_they_are_asked_of(self):
        for names in permutations("xyz"):
            self.assertEqual(reached(ROLL, 3, list(names), 6), reached(ROLL, 3, ["x", "y", "z"], 6))

    def test_no_names(self):
        for at in range(4):
            self.assertEqual(shape(untouched(self, reached, ROLL, at, [], 10 ** 9)), shape([]))
            self.assertEqual(shape(untouched(self, needs, ROLL, at, [])), shape({}))

    def test_who_tends_reaches_and_not_who_holds(self):
        rows = BREACHES + (("mend", "m", 6, "ann", "eve"), ("forfeit", "f", 7, "b", "zed"), ("mend", "n", 8, "eve", "dan"))
        roll = roll_of(LAYING, rows)
        self.assertEqual([reached(roll, at, ["x", "y"], 1) for at in range(3, 7)], [
            [("ann", "x"), ("bob", "x"), ("bob", "y")],
            [("bob", "x"), ("bob", "y"), ("eve", "x")],
            [("eve", "x"), ("zed", "x"), ("zed", "y")],
            [("dan", "x"), ("zed", "x"), ("zed", "y")],
        ])

    def test_places_at_that_moment(self):
        # Between b's last inch and z lie nine inches of e and those of c and d.
        rows = BREACHES + (("measure", "m", 6, "d", 3), ("measure", "n", 7, "b", 5), ("measure", "o", 8, "c", 1))
        roll = roll_of(LAYING, rows)
        for at, far in ((3, 20), (4, 13), (5, 13), (6, 14)):
            self.assertNotIn(("bob", "z"), reached(roll, at, ["z"], far - 1))
            self.assertIn(("bob", "z"), reached(roll, at, ["z"], far))
        self.assertEqual(reached(roll, 6, ["y"], 1), [("bob", "y"), ("cid", "y")])

    def test_lands_without_inches_reach_nothing(self):
        self.assertNotIn("cid", [house for house, _ in reached(ROLL, 3, ["x", "y", "z"], 10 ** 9)])

    def test_against_a_walk(self):
        seen = 0
        for roll in made_rolls(30):
            told = words(roll)
            for at, dyke in moments(roll):
                walk, tenders = [(field, inch) for field, inch, _, _ in dyke.walk()], dyke.tenders()
                names = [row for row, word in zip(roll[1][:at], told) if row[0] == "breach" and word == "done"
                         and (row[3], row[4]) in walk]
                for reach in (0, 1, 2, 5, 30) if names else ():
                    near = {(house, row[1]) for row in names for place, house in enumerate(tenders)
                            if abs(place - walk.index((row[3], row[4]))) <= reach}
                    self.assertEqual(reached(roll, at, [row[1] for row in names], reach), sorted(near))
                    seen += len(names)
        self.assertGreater(seen, 100)

    def test_every_breach_is_reached_by_who_tends_its_inch(self):
        for roll in made_rolls(20):
            done = [row for row, word in zip(roll[1], words(roll)) if row[0] == "breach" and word == "done"]
            for row in done:
                try:
                    house = bearer(roll, 40, row[3], row[4])[1]
                except NoInch:
                    continue
                self.assertEqual(reached(roll, 40, [row[1]], 0), [(mends(roll, 40, house), row[1])])

    def test_great_dykes_at_once(self):
        laying = tuple((field, "h" + field, 10 ** 6, 10 ** 7) for field in "abcdefgh")
        rows = [("breach", letters(number), 1, "abcdefgh"[number % 8], 10 ** 7 - 1, 0, 5) for number in range(12)]
        roll = roll_of(laying, rows)
        names = [row[1] for row in rows]
        for _ in range(20):
            self.assertEqual(len(reached(roll, 12, names, 0)), 12)
            self.assertEqual(len(reached(roll, 12, names, 1)), 12 + 11)
            self.assertEqual(len(reached(roll, 12, names, 10 ** 9)), 96)
        self.assertEqual(reached(roll, 12, names[:1], 1), [("ha", "aaa"), ("hb", "aaa")])

    def test_what_was_told_is_the_askers_own(self):
        first, kept = reached(ROLL, 3, ["x"], 5), reached(ROLL, 3, ["x"], 5)
        first.clear()
        self.assertEqual(reached(ROLL, 3, ["x"], 5), kept)


class Needs(unittest.TestCase):
    def test_needs(self):
        told = untouched(self, needs, ROLL, 3, ["z", "x", "y"])
        self.assertEqual(shape(dict(sorted(told.items()))), shape({"x": 7, "y": 0, "z": 10 ** 6}))
        self.assertEqual(needs(ROLL, 1, ["x"]), {"x": 7})

    def test_what_was_told_is_the_askers_own(self):
        first = needs(ROLL, 3, ["x"])
        first["x"] = 0
        self.assertEqual(needs(ROLL, 3, ["x"]), {"x": 7})


class Refused(unittest.TestCase):
    ROWS = BREACHES + (
        ("part", "pa", 1, "a", (("n", "ann", 5), ("s", "bob", 5))),
        ("join", "jo", 1, ("a", "e"), "big"),
        ("forfeit", "fo", 1, "d", "dan"),
        ("measure", "me", 9, "e", 9),
        ("mend", "md", 2, "ann", "bob"),
        ("alone", "al", 2, "ann"),
        ("view", "vi", 2, "a", 0, "ann"),
        ("breach", "idle", 2, "c", 0, 5, 5),
        ("breach", "late", 9, "a", 0, 5, 5),
        ("measure", "mf", 10, "e", 10),
    )
    ROLL = roll_of(LAYING, ROWS)
    LAST = len(ROWS)

    def at_row(self, name):
        """How many rows go ahead of it."""
        return [row[1] for row in self.ROLL[1]].index(name)

    def test_names_of_no_row_so_far(self):
        for at in range(self.LAST + 1):
            for name in ["nobody", "", "X", "x ", "two words", "line\nend", "~", "toolonganame", "x" * 20000, "ann", "a"]:
                with self.assertRaises(NoName):
                    asked(self.ROLL, at, [name], 5)
            for row in self.ROLL[1][at:]:
                with self.assertRaises(NoName):
                    asked(self.ROLL, at, [row[1]], 5)

    def test_rows_of_other_forms_and_idle_breaches(self):
        for name in ("pa", "jo", "fo", "me", "md", "al", "vi", "idle", "mf"):
            for at in range(self.at_row(name) + 1, self.LAST + 1):
                with self.assertRaises(NoBreach):
                    asked(self.ROLL, at, [name], 5)

    def test_an_inch_that_is_there_only_later_leaves_it_idle(self):
        rows = (("breach", "x", 1, "c", 0, 5, 5), ("measure", "me", 2, "c", 4))
        with self.assertRaises(NoBreach):
            asked(roll_of(LAYING, rows), 2, ["x"], 5)
        told = asked(roll_of(LAYING, (rows[0], put(rows[1], 2, 1))), 2, ["x"], 0)
        self.assertEqual(told, ({"x": 5}, [("cid", "x")]))

    def test_inches_that_are_not_there_any_more(self):
        gone = self.at_row("me") + 1
        back = self.at_row("mf") + 1
        for at in range(self.at_row("z") + 1, self.LAST + 1):
            if gone <= at < back:
                with self.assertRaises(NoInch):
                    asked(self.ROLL, at, ["z"], 5)
            else:
                self.assertEqual(asked(self.ROLL, at, ["z"], 0), ({"z": 10 ** 6}, [("bob", "z")]))

    def test_the_first_in_the_list_decides(self):
        at = self.at_row("mf")
        kinds = {"nobody": NoName, "pa": NoBreach, "idle": NoBreach, "z": NoInch, "x": None, "y": None, "late": None}
        for many in (2, 3, 4):
            for names in permutations(kinds, many):
                due = [kinds[name] for name in names if kinds[name] is not None]
                if due:
                    with self.assertRaises(due[0], msg=names):
                        asked(self.ROLL, at, list(names), 5)
                else:
                    self.assertEqual(sorted(asked(self.ROLL, at, list(names), 5)[0]), sorted(names))

    def test_what_is_refused_changes_nothing(self):
        for names in (["nobody"], ["x", "pa"]):
            for ask in (lambda: untouched(self, needs, self.ROLL, self.LAST, names),
                        lambda: untouched(self, reached, self.ROLL, self.LAST, names, 5)):
                with self.assertRaises((NoName, NoBreach)):
                    ask()

    def test_texts_that_are_no_names(self):
        for name in [thing for thing in things() if isinstance(thing, str)]:
            with self.assertRaises(NoName):
                asked(self.ROLL, self.LAST, ["x", name], 5)
