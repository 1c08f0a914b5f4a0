import unittest
from itertools import permutations

from dykelengths.lands import inches_of, lands, words
from dykelengths.rolls import roll_of
from tests.helper import LAYING, ROWS, SMALL, Acres, made_rolls, shape, untouched

FIELDS = [
    ("east", "ann", (("east", 0, 30),)),
    ("mid", "bob", (("mid", 0, 7),)),
    ("west", "ann", (("west", 0, 20),)),
]


def days(rows):
    """Rows told without names and days, one a day in this order; their names are not in this order."""
    return [[row[0], chr(ord("z") - at), at] + list(row[1:]) for at, row in enumerate(rows)]


def told(*rows):
    """The roll of LAYING with these rows, one a day."""
    return roll_of(LAYING, days(rows))


def last_word(*rows):
    return words(told(*rows))[-1]


def lands_behind(*rows):
    return lands(told(*rows), len(rows))


HALVES = ("part", "east", [("n", "ann", 10), ("s", "cid", 20)])


class WithoutRows(unittest.TestCase):
    def test_lands_are_the_fields(self):
        for roll in ((LAYING, ()), roll_of(LAYING, ROWS)):
            self.assertEqual(shape(untouched(self, lands, roll, 0)), shape(FIELDS))

    def test_lands_rise_whatever_the_order_of_fields(self):
        self.assertEqual(lands((LAYING[::-1], ()), 0), FIELDS)

    def test_inches(self):
        for roll in ((LAYING, ()), roll_of(LAYING, ROWS)):
            for field, _, _, inches in LAYING:
                self.assertEqual(shape(untouched(self, inches_of, roll, 0, field)), shape(inches))

    def test_words(self):
        self.assertEqual(shape(untouched(self, words, (LAYING, ()))), shape([]))


class Inches(unittest.TestCase):
    def test_measures_of_this_field_and_of_others(self):
        roll = told(("measure", "east", 5), ("alone", "ann"), ("measure", "mid", 10 ** 7), ("measure", "east", 0),
                    ("measure", "east", 9))
        self.assertEqual(words(roll), ["done", "none", "done", "done", "done"])
        self.assertEqual([inches_of(roll, at, "east") for at in range(6)], [600, 5, 5, 5, 0, 9])
        self.assertEqual([inches_of(roll, at, "mid") for at in range(6)], [0, 0, 0, 10 ** 7, 10 ** 7, 10 ** 7])
        self.assertEqual([inches_of(roll, at, "west") for at in range(6)], [100] * 6)

    def test_a_measure_goes_with_the_field_not_with_a_land_called_so(self):
        roll = told(HALVES, ("measure", "east", 5), ("join", ["n", "mid"], "east"))
        self.assertEqual(words(roll), ["done", "done", "houses"])
        self.assertEqual(inches_of(roll, 3, "east"), 5)

    def test_a_measure_changes_no_land(self):
        self.assertEqual(lands_behind(("measure", "east", 0), ("measure", "west", 3)), FIELDS)


class Parts(unittest.TestCase):
    def test_done(self):
        self.assertEqual(last_word(HALVES), "done")
        self.assertEqual(lands_behind(HALVES), FIELDS[1:2] + [
            ("n", "ann", (("east", 0, 10),)), ("s", "cid", (("east", 10, 30),)), FIELDS[2]])

    def test_parts_go_in_their_order_in_the_row(self):
        row = ("part", "mid", [("c", "x", 1), ("b", "y", 4), ("a", "z", 2)])
        self.assertEqual(lands_behind(row)[:3], [
            ("a", "z", (("mid", 0, 2),)), ("b", "y", (("mid", 2, 6),)), ("c", "x", (("mid", 6, 7),))])

    def test_land(self):
        self.assertEqual(last_word(("part", "north", [("a", "ann", 1), ("b", "ann", 1)])), "land")
        self.assertEqual(last_word(HALVES, HALVES), "land")

    def test_acres(self):
        for some in (19, 21, 10 ** 7):
            self.assertEqual(last_word(("part", "east", [("n", "ann", 10), ("s", "cid", some)])), "acres")
        self.assertEqual(last_word(HALVES, ("part", "n", [("x", "ann", 10), ("y", "cid", 20)])), "acres")
        self.assertEqual(last_word(HALVES, ("part", "n", [("x", "ann", 4), ("y", "cid", 6)])), "done")

    def test_name(self):
        self.assertEqual(last_word(("part", "east", [("mid", "ann", 10), ("s", "cid", 20)])), "name")
        self.assertEqual(last_word(("part", "east", [("n", "ann", 10), ("west", "cid", 20)])), "name")
        # The parted land itself stands no more, and other fields' names are free once they are parted.
        self.assertEqual(last_word(("part", "east", [("east", "ann", 10), ("s", "cid", 20)])), "done")
        self.assertEqual(last_word(HALVES, ("part", "mid", [("a", "ann", 3), ("east", "cid", 4)])), "done")
        self.assertEqual(last_word(HALVES, ("part", "mid", [("a", "ann", 3), ("n", "cid", 4)])), "name")

    def test_a_part_called_as_the_parted_land(self):
        self.assertEqual(lands_behind(("part", "east", [("a", "bob", 10), ("east", "cid", 20)])), [
            ("a", "bob", (("east", 0, 10),)), ("east", "cid", (("east", 10, 30),))] + FIELDS[1:])

    def test_first_reason_goes_first(self):
        self.assertEqual(last_word(("part", "north", [("mid", "ann", 1), ("west", "ann", 1)])), "land")
        self.assertEqual(last_word(("part", "east", [("mid", "ann", 1), ("west", "ann", 1)])), "acres")

    def test_a_land_of_several_pieces(self):
        rows = [("join", ["east", "west"], "big"), ("part", "big", [("a", "x", 29), ("b", "y", 2), ("c", "z", 19)])]
        self.assertEqual(lands_behind(*rows), [
            ("a", "x", (("east", 0, 29),)), ("b", "y", (("east", 29, 30), ("west", 0, 1))),
            ("c", "z", (("west", 1, 20),)), FIELDS[1]])
        rows[1] = ("part", "big", [("a", "x", 30), ("b", "y", 20)])
        self.assertEqual(lands_behind(*rows)[:2], [("a", "x", (("east", 0, 30),)), ("b", "y", (("west", 0, 20),))])


    def test_heirs_in_any_order_and_in_one_step_or_several(self):
        heirs = [("a", "x", 3), ("b", "y", 10), ("c", "z", 17)]
        at_once = lands_behind(("part", "east", heirs))
        for mixed in permutations(heirs):
            self.assertEqual(lands_behind(("part", "east", mixed)), at_once)
        first = ("part", "east", [("a", "x", 3), ("rest", "ann", 27)])
        self.assertEqual(lands_behind(first, ("part", "rest", heirs[1:])), at_once)
        first = ("part", "east", [("c", "z", 17), ("ab", "ann", 13)])
        self.assertEqual(lands_behind(first, ("part", "ab", heirs[:2])), at_once)


class Joins(unittest.TestCase):
    def test_fields_that_do_not_touch(self):
        self.assertEqual(last_word(("join", ["east", "west"], "big")), "done")
        self.assertEqual(lands_behind(("join", ["west", "east"], "big")), [
            ("big", "ann", (("east", 0, 30), ("west", 0, 20))), FIELDS[1]])

    def test_fields_side_by_side_stay_two_pieces(self):
        rows = [("forfeit", "mid", "ann"), ("join", ["east", "mid", "west"], "all")]
        self.assertEqual(lands_behind(*rows), [("all", "ann", (("east", 0, 30), ("mid", 0, 7), ("west", 0, 20)))])

    def test_along_the_dyke_not_by_names(self):
        laying = (("zed", "ann", 2, 1), ("mid", "ann", 3, 1), ("ant", "ann", 4, 1))
        roll = roll_of(laying, days([("join", ["ant", "mid", "zed"], "all")]))
        self.assertEqual(lands(roll, 1), [("all", "ann", (("zed", 0, 2), ("mid", 0, 3), ("ant", 0, 4)))])

    def test_pieces_that_touch_become_one(self):
        thirds = ("part", "east", [("a", "ann", 5), ("b", "ann", 5), ("c", "ann", 20)])
        self.assertEqual(lands_behind(thirds, ("join", ["a", "b"], "z"))[-1], ("z", "ann", (("east", 0, 10),)))
        self.assertEqual(lands_behind(thirds, ("join", ["a", "c"], "z"))[-1],
                         ("z", "ann", (("east", 0, 5), ("east", 10, 30))))
        self.assertEqual(lands_behind(thirds, ("join", ["a", "c"], "z"), ("join", ["b", "z"], "y"))[-1],
                         ("y", "ann", (("east", 0, 30),)))
        self.assertEqual(lands_behind(thirds, ("join", ["a", "c", "west"], "z"), ("join", ["b", "z"], "y"))[-1],
                         ("y", "ann", (("east", 0, 30), ("west", 0, 20))))

    def test_called_as_one_of_the_joined(self):
        for name in ("east", "west"):
            self.assertEqual(last_word(("join", ["east", "west"], name)), "done")
            self.assertEqual(lands_behind(("join", ["east", "west"], name)),
                             sorted([(name, "ann", (("east", 0, 30), ("west", 0, 20))), FIELDS[1]]))

    def test_land(self):
        for names in (["east", "north"], ["a", "east"], ["a", "b"]):
            self.assertEqual(last_word(("join", names, "big")), "land")

    def test_houses(self):
        self.assertEqual(last_word(("join", ["east", "mid"], "big")), "houses")
        self.assertEqual(last_word(("join", ["east", "mid", "west"], "big")), "houses")
        self.assertEqual(last_word(HALVES, ("join", ["n", "s"], "big")), "houses")

    def test_name(self):
        self.assertEqual(last_word(("join", ["east", "west"], "mid")), "name")
        self.assertEqual(last_word(HALVES, ("join", ["n", "west"], "s")), "name")
        self.assertEqual(last_word(HALVES, ("join", ["n", "west"], "east")), "done")

    def test_first_reason_goes_first(self):
        self.assertEqual(last_word(("join", ["east", "mid", "north"], "west")), "land")
        self.assertEqual(last_word(("join", ["east", "north"], "west")), "land")
        self.assertEqual(last_word(("join", ["east", "mid"], "west")), "houses")


class Forfeits(unittest.TestCase):
    def test_fields_parts_and_joined_lands(self):
        self.assertEqual(lands_behind(("forfeit", "east", "bob"))[0], ("east", "bob", (("east", 0, 30),)))
        self.assertEqual(lands_behind(HALVES, ("forfeit", "s", "bob"))[-2], ("s", "bob", (("east", 10, 30),)))
        self.assertEqual(lands_behind(("join", ["east", "west"], "big"), ("forfeit", "big", "zed"))[0],
                         ("big", "zed", (("east", 0, 30), ("west", 0, 20))))
        self.assertEqual(last_word(HALVES, ("forfeit", "s", "bob")), "done")

    def test_land(self):
        self.assertEqual(last_word(("forfeit", "north", "bob")), "land")
        self.assertEqual(last_word(HALVES, ("forfeit", "east", "bob")), "land")
        self.assertEqual(last_word(("join", ["east", "west"], "big"), ("forfeit", "west", "ann")), "land")

    def test_same(self):
        self.assertEqual(last_word(("forfeit", "east", "ann")), "same")
        self.assertEqual(last_word(("forfeit", "east", "bob"), ("forfeit", "east", "bob")), "same")
        self.assertEqual(last_word(("forfeit", "east", "bob"), ("forfeit", "east", "ann")), "done")


class Mends(unittest.TestCase):
    def test_rings(self):
        rows = [("mend", "a", "b"), ("mend", "b", "c"), ("mend", "c", "d")]
        self.assertEqual(words(told(*rows)), ["done"] * 3)
        for house, word in (("a", "ring"), ("b", "ring"), ("c", "ring"), ("e", "done")):
            self.assertEqual(last_word(*rows, ("mend", "d", house)), word)
        self.assertEqual(last_word(*rows, ("mend", "c", "a")), "ring")
        self.assertEqual(last_word(*rows, ("mend", "a", "d")), "done")
        self.assertEqual(last_word(*rows, ("mend", "e", "a")), "done")

    def test_another_mend_takes_the_place_of_the_one_ahead(self):
        rows = [("mend", "a", "b"), ("mend", "a", "c")]
        self.assertEqual(last_word(*rows, ("mend", "b", "a")), "done")
        self.assertEqual(last_word(*rows, ("mend", "c", "a")), "ring")
        self.assertEqual(last_word(("mend", "a", "b"), ("mend", "a", "b")), "done")

    def test_an_idle_mend_gives_no_mender(self):
        rows = [("mend", "a", "b"), ("mend", "b", "a")]
        self.assertEqual(words(told(*rows, ("alone", "b"), ("alone", "a"))), ["done", "ring", "none", "done"])

    def test_alone(self):
        self.assertEqual(last_word(("alone", "ann")), "none")
        self.assertEqual(last_word(("mend", "a", "b"), ("alone", "b")), "none")
        self.assertEqual(words(told(("mend", "a", "b"), ("alone", "a"), ("alone", "a"))), ["done", "done", "none"])

    def test_a_mend_again_after_an_alone(self):
        rows = [("mend", "a", "b"), ("alone", "a")]
        self.assertEqual(last_word(*rows, ("mend", "b", "a")), "done")
        self.assertEqual(last_word(*rows, ("mend", "a", "b")), "done")
        self.assertEqual(last_word(*rows, ("mend", "b", "a"), ("mend", "a", "b")), "ring")

    def test_lands_stay(self):
        self.assertEqual(lands_behind(("mend", "ann", "bob"), ("alone", "ann")), FIELDS)


class Looks(unittest.TestCase):
    def looked(self, field, inch, *rows):
        breach = last_word(*rows, ("breach", field, inch, 1, 1))
        self.assertEqual(last_word(*rows, ("view", field, inch, "ann")), breach)
        return breach

    def test_last_inch_and_first_beyond(self):
        self.assertEqual([self.looked("east", inch) for inch in (0, 599, 600, 10 ** 7 - 1)],
                         ["done", "done", "inch", "inch"])
        longer, shorter, none = ("measure", "east", 601), ("measure", "east", 2), ("measure", "east", 0)
        self.assertEqual([self.looked("east", inch, longer) for inch in (600, 601)], ["done", "inch"])
        self.assertEqual([self.looked("east", inch, shorter) for inch in (1, 2)], ["done", "inch"])
        self.assertEqual([self.looked("east", inch, none) for inch in (0, 1)], ["inch", "inch"])
        self.assertEqual(self.looked("west", 100, longer), "inch")

    def test_a_field_without_inches(self):
        self.assertEqual(self.looked("mid", 0), "inch")
        self.assertEqual(self.looked("mid", 0, ("measure", "mid", 1)), "done")

    def test_of_one_day_measures_go_ahead(self):
        roll = roll_of(LAYING, [("view", "a", 5, "mid", 0, "bob"), ("measure", "b", 5, "mid", 1)])
        self.assertEqual(words(roll), ["done", "done"])

    def test_lands_and_inches_stay(self):
        roll = told(("breach", "east", 3, 5, 5), ("view", "east", 3, "zed"))
        self.assertEqual(lands(roll, 2), FIELDS)
        self.assertEqual(inches_of(roll, 2, "east"), 600)


class Moments(unittest.TestCase):
    def test_against_counting_acre_by_acre(self):
        kinds = set()
        for roll in made_rolls(60):
            dyke = Acres(SMALL)
            expected = []
            for at, row in enumerate(roll[1]):
                self.assertEqual(lands(roll, at), dyke.lands())
                expected.append(dyke.do(row))
            self.assertEqual(shape(untouched(self, words, roll)), shape(expected))
            self.assertEqual(shape(untouched(self, lands, roll, 40)), shape(dyke.lands()))
            for field in dyke.inches:
                self.assertEqual(inches_of(roll, 40, field), dyke.inches[field])
            kinds |= {(row[0], word) for row, word in zip(roll[1], expected)}
        self.assertEqual(len(kinds), 20)  # every word of every kind came up

    def test_every_acre_in_just_one_piece(self):
        order = [field[0] for field in SMALL]
        for roll in made_rolls(30):
            for at in range(41):
                now = lands(roll, at)
                self.assertEqual(now, sorted(set(now)))
                self.assertEqual(len({land[0] for land in now}), len(now))
                acres = []
                for _, _, pieces in now:
                    self.assertEqual(list(pieces), sorted(pieces, key=lambda piece: (order.index(piece[0]), piece[1])))
                    for one, other in zip(pieces, pieces[1:]):
                        self.assertFalse(one[0] == other[0] and one[2] >= other[1])
                    acres += [(field, acre) for field, low, high in pieces for acre in range(low, high)]
                self.assertEqual(sorted(acres), sorted(Acres(SMALL).acres))

    def test_what_a_row_does_not_name_stays(self):
        for roll in made_rolls(30):
            for at, (row, word) in enumerate(zip(roll[1], words(roll))):
                named = {"part": row[3:4], "forfeit": row[3:4], "join": row[3]}.get(row[0], ())
                if word != "done":
                    named = ()
                behind = lands(roll, at + 1)
                for land in lands(roll, at):
                    if land[0] not in named:
                        self.assertIn(land, behind)
                if not named:
                    self.assertEqual(lands(roll, at), behind)

    def test_an_idle_row_changes_nothing_that_is_told_behind_it(self):
        for roll in made_rolls(15):
            told_words = words(roll)
            kept = [row for row, word in zip(roll[1], told_words) if word == "done"]
            self.assertEqual(words((SMALL, tuple(kept))), ["done"] * len(kept))
            self.assertEqual(lands((SMALL, tuple(kept)), len(kept)), lands(roll, 40))
            for at, word in enumerate(told_words):
                if word != "done":
                    for field in ("east", "mid", "west", "yonder"):
                        self.assertEqual(inches_of(roll, at, field), inches_of(roll, at + 1, field))

    def test_rows_behind_the_moment_do_nothing(self):
        for roll in made_rolls(10):
            for at in range(41):
                self.assertEqual(lands(roll, at), lands((SMALL, roll[1][:at]), at))

    def test_many_acres_at_once(self):
        laying = (("east", "ann", 10 ** 6, 10 ** 7), ("west", "ann", 10 ** 6, 10 ** 7))
        rows = [("join", ["east", "west"], "all"), ("part", "all", [("a", "ann", 10 ** 6 + 1), ("b", "bob", 10 ** 6 - 1)])]
        roll = roll_of(laying, days(rows))
        for _ in range(500):
            self.assertEqual(lands(roll, 2), [
                ("a", "ann", (("east", 0, 10 ** 6), ("west", 0, 1))), ("b", "bob", (("west", 1, 10 ** 6),))])

    def test_acres_and_inches_of_sixty_figures(self):
        huge = 10 ** 59
        rows = (("part", "a", 0, "east", (("n", "ann", huge), ("s", "bob", 1))),
                ("view", "b", 0, "east", huge - 1, "ann"), ("view", "c", 0, "east", huge, "ann"))
        roll = ((("east", "ann", huge + 1, huge),), rows)
        self.assertEqual(words(roll), ["done", "done", "inch"])
        self.assertEqual(lands(roll, 3), [
            ("n", "ann", (("east", 0, huge),)), ("s", "bob", (("east", huge, huge + 1),))])

    def test_what_was_told_is_the_askers_own(self):
        roll = made_rolls(1)[0]
        for ask in (lambda: words(roll), lambda: lands(roll, 0), lambda: lands(roll, 40)):
            first, kept = ask(), list(ask())
            first.clear()
            self.assertEqual(ask(), kept)
