import unittest
from itertools import permutations

from dykelengths.errors import NoRow
from dykelengths.rows import field_of, goes_ahead, is_laying, is_row, row_of
from tests.helper import (
    ALONE, BREACH, FORFEIT, JOIN, LAYING, MEASURE, MEND, PART, ROWS, VIEW,
    listed, put, shape, things, untouched,
)

NO_NAMES = ("", "abcdefghi", "A", "a b", "a1", "a\n", None, True, False, 0, 5, ("a",), ["a"], {})
NAME_PLACES = (
    (PART, (1, 3)), (JOIN, (1, 4)), (FORFEIT, (1, 3, 4)), (MEASURE, (1, 3)),
    (MEND, (1, 3, 4)), (ALONE, (1, 3)), (BREACH, (1, 3)), (VIEW, (1, 3, 5)),
)
NUMBER_PLACES = (
    (MEASURE, 4, 0, 10 ** 7), (BREACH, 4, 0, 10 ** 7 - 1), (BREACH, 5, 0, 10 ** 9),
    (BREACH, 6, 0, 10 ** 6), (VIEW, 4, 0, 10 ** 7 - 1),
) + tuple((row, 2, 0, 9999) for row in ROWS)
NO_NUMBERS = (None, True, False, "5", "", (5,), [5], {}, 10 ** 59, -(10 ** 59))


def parts_of(many):
    return tuple((land, "ann", 1) for land in "abcdefgh"[:many])


def field_list(many):
    return tuple((field, "ann", 1, 1) for field in "abcdefghi"[:many])


def wrong_rows():
    """Tuples that are no rows, and make none either."""
    told = []
    for row, places in NAME_PLACES:
        told += [put(row, place, thing) for place in places for thing in NO_NAMES]
    for row, place, least, most in NUMBER_PLACES:
        told += [put(row, place, thing) for thing in NO_NUMBERS + (least - 1, most + 1)]
    for row in ROWS:
        told += [row[:many] for many in range(len(row))]
        told += [row + ("more",), row + (5,), row + (None,), row[1:]]
        told += [put(row, 0, kind) for kind in ("", "Part", "parts", "rows", None, True, 0, ("part",), ["part"], {})]
        told += [put(row, 0, other[0]) for other in ROWS if {row[0], other[0]} not in ({row[0]}, {"forfeit", "mend"})]
    told.append(put(MEND, 4, MEND[3]))
    told += [put(PART, 4, parts) for parts in wrong_parts()]
    told += [put(JOIN, 3, lands) for lands in wrong_lands()]
    return told


def wrong_parts():
    told = [(), parts_of(1), parts_of(7), None, True, 2, "ab", {"a": 1, "b": 2}, ("ab", "cd"), (None, None)]
    good = parts_of(3)
    for at in range(3):
        for thing in NO_NAMES:
            told += [put(good, at, put(good[at], place, thing)) for place in (0, 1)]
        told += [put(good, at, put(good[at], 2, thing)) for thing in NO_NUMBERS + (0, 10 ** 7 + 1)]
        told += [put(good, at, thing) for thing in (None, True, 1, "abc", (), ("a", "b"), ("a", "b", 1, 1), {})]
    told += [good[:2] + (good[1],), (("a", "ann", 1), ("a", "bob", 2)), (("a", "ann", 1), ("a", "ann", 2))]
    return told


def wrong_lands():
    told = [(), ("a",), tuple("abcdefg"), None, True, 2, "ab", {"a": 1, "b": 2}, (("a",), ("b",))]
    for at in range(3):
        told += [put(("a", "c", "e"), at, thing) for thing in NO_NAMES]
    told += [("a", "a"), ("a", "b", "b"), ("a", "b", "a")]
    return told


class Layings(unittest.TestCase):
    def test_one_to_eight_fields(self):
        self.assertIs(is_laying(LAYING), True)
        for many in range(10):
            self.assertIs(is_laying(field_list(many)), 1 <= many <= 8, many)

    def test_fields_go_as_they_lie_not_by_name(self):
        self.assertIs(is_laying(field_list(3)[::-1]), True)

    def test_bounds_of_acres_and_inches(self):
        for acres, right in ((0, False), (1, True), (10 ** 6, True), (10 ** 6 + 1, False), (-1, False), (10 ** 59, False)):
            self.assertIs(is_laying((("a", "b", acres, 5),)), right, acres)
        for inches, right in ((-1, False), (0, True), (10 ** 7, True), (10 ** 7 + 1, False), (10 ** 59, False)):
            self.assertIs(is_laying((("a", "b", 5, inches),)), right, inches)

    def test_wrong_things_at_every_place(self):
        for at in range(3):
            for place in (0, 1):
                for thing in NO_NAMES:
                    self.assertIs(is_laying(put(LAYING, at, put(LAYING[at], place, thing))), False, repr(thing))
            for place in (2, 3):
                for thing in NO_NUMBERS:
                    self.assertIs(is_laying(put(LAYING, at, put(LAYING[at], place, thing))), False, repr(thing))
            for thing in (None, True, 1, "abcd", (), {}, LAYING[at][:3], LAYING[at] + (1,), list(LAYING[at])):
                self.assertIs(is_laying(put(LAYING, at, thing)), False, repr(thing))

    def test_fields_are_unlike_houses_and_fields_may_be_alike(self):
        self.assertIs(is_laying((("a", "b", 1, 1), ("c", "b", 1, 1), ("a", "c", 2, 2))), False)
        self.assertIs(is_laying((("a", "a", 1, 1), ("b", "a", 1, 1))), True)

    def test_lists_and_whatever_thing(self):
        self.assertIs(is_laying(list(LAYING)), False)
        self.assertIs(is_laying(listed(LAYING)), False)
        for thing in things() + list(ROWS):
            self.assertIs(is_laying(thing), False, repr(thing)[:40])


class IsRow(unittest.TestCase):
    def test_each_kind(self):
        for row in ROWS:
            self.assertIs(is_row(row), True, row)

    def test_bounds_of_numbers(self):
        for row, place, least, most in NUMBER_PLACES:
            for number in (least, most):
                self.assertIs(is_row(put(row, place, number)), True, (row, place, number))

    def test_bounds_of_acres(self):
        for acres, right in ((0, False), (1, True), (10 ** 7, True), (10 ** 7 + 1, False)):
            self.assertIs(is_row(put(PART, 4, (("a", "b", acres), ("c", "b", 1)))), right, acres)

    def test_how_many_parts_and_lands(self):
        for many in range(8):
            self.assertIs(is_row(put(PART, 4, parts_of(many))), 2 <= many <= 6, many)
            self.assertIs(is_row(put(JOIN, 3, tuple("abcdefgh"[:many]))), 2 <= many <= 6, many)

    def test_names_of_one_and_eight_letters(self):
        for row, places in NAME_PLACES:
            for place in places:
                for name in ("z", "abcdefgh"):
                    self.assertIs(is_row(put(row, place, name)), True, (row, place))

    def test_wrong_rows(self):
        for thing in wrong_rows():
            self.assertIs(is_row(thing), False, repr(thing)[:80])

    def test_parts_and_lands_rise(self):
        for parts in permutations(parts_of(4)):
            self.assertIs(is_row(put(PART, 4, parts)), parts == parts_of(4))
        for names in permutations("abcd"):
            self.assertIs(is_row(put(JOIN, 3, names)), names == tuple("abcd"))
        self.assertIs(is_row(put(PART, 4, (("a", "z", 9), ("b", "a", 1)))), True)

    def test_names_of_unlike_sorts_may_be_alike(self):
        self.assertIs(is_row(("part", "a", 0, "a", (("a", "a", 1), ("b", "a", 1)))), True)
        self.assertIs(is_row(("join", "a", 0, ("a", "b"), "a")), True)
        self.assertIs(is_row(("forfeit", "a", 0, "a", "a")), True)
        self.assertIs(is_row(("mend", "a", 0, "a", "b")), True)
        self.assertIs(is_row(("mend", "a", 0, "b", "b")), False)

    def test_lists_are_no_tuples(self):
        for row in ROWS:
            self.assertIs(is_row(list(row)), False)
        self.assertIs(is_row(put(PART, 4, list(PART[4]))), False)
        self.assertIs(is_row(put(PART, 4, (list(PART[4][0]), PART[4][1]))), False)
        self.assertIs(is_row(put(JOIN, 3, list(JOIN[3]))), False)

    def test_whatever_thing(self):
        for thing in things() + [LAYING]:
            self.assertIs(is_row(thing), False, repr(thing)[:40])


class RowOf(unittest.TestCase):
    def test_rows_and_their_lists(self):
        for row in ROWS:
            self.assertEqual(shape(untouched(self, row_of, row)), shape(row))
            self.assertEqual(shape(untouched(self, row_of, listed(row))), shape(row))
            self.assertEqual(shape(untouched(self, row_of, list(row))), shape(row))

    def test_lists_at_one_place(self):
        self.assertEqual(shape(row_of(put(PART, 4, list(PART[4])))), shape(PART))
        self.assertEqual(shape(row_of(put(PART, 4, (list(PART[4][0]), PART[4][1])))), shape(PART))
        self.assertEqual(shape(row_of(put(JOIN, 3, list(JOIN[3])))), shape(JOIN))

    def test_parts_and_lands_in_any_order(self):
        parts = (("a", "z", 9), ("b", "y", 1), ("c", "x", 5), ("d", "a", 2))
        for mixed in permutations(parts):
            self.assertEqual(row_of(put(PART, 4, mixed)), put(PART, 4, parts))
            self.assertEqual(row_of(listed(put(PART, 4, mixed))), put(PART, 4, parts))
        for mixed in permutations("abcd"):
            self.assertEqual(row_of(put(JOIN, 3, mixed)), put(JOIN, 3, tuple("abcd")))
            self.assertEqual(row_of(listed(put(JOIN, 3, mixed))), put(JOIN, 3, tuple("abcd")))

    def test_what_makes_none(self):
        for thing in wrong_rows() + things():
            for asked in (thing, listed(thing)):
                with self.assertRaises(NoRow, msg=repr(asked)[:80]):
                    untouched(self, row_of, asked)

    def test_things_deep_within_a_row(self):
        for row in ROWS:
            for place in range(1, len(row)):
                for thing in things():
                    if isinstance(row[place], int) and shape(thing) in (shape(0), shape(1), shape(5)):
                        continue
                    with self.assertRaises(NoRow, msg=repr(put(row, place, thing))[:80]):
                        row_of(put(row, place, thing))

    def test_lists_that_are_changed_afterwards(self):
        handed = listed(PART)
        told = row_of(handed)
        handed[4][0][0] = "other"
        handed[4].pop()
        handed[3] = "other"
        self.assertEqual(told, PART)


class FieldOf(unittest.TestCase):
    def test_each_kind(self):
        told = [field_of(row) for row in ROWS]
        self.assertEqual(told, [None, None, None, "east", None, None, "east", "west"])


class GoesAhead(unittest.TestCase):
    def both_ways(self, row, other):
        self.assertIs(goes_ahead(row, other), True, (row, other))
        self.assertIs(goes_ahead(other, row), False, (row, other))

    def test_days_go_first(self):
        for row in ROWS:
            for other in ROWS:
                self.both_ways(put(put(row, 1, "z"), 2, 9), put(put(other, 1, "a"), 2, 10))
                self.both_ways(put(put(row, 1, "z"), 2, 0), put(put(other, 1, "a"), 2, 9999))

    def test_then_words(self):
        ranks = [[MEASURE], [PART, JOIN, FORFEIT], [MEND, ALONE], [BREACH, VIEW]]
        for at, firsts in enumerate(ranks):
            for later in ranks[at + 1:]:
                for row in firsts:
                    for other in later:
                        self.both_ways(put(row, 1, "z"), put(other, 1, "a"))
                        self.both_ways(put(row, 1, "a"), put(other, 1, "z"))

    def test_then_names(self):
        for alike in ([MEASURE], [PART, JOIN, FORFEIT], [MEND, ALONE], [BREACH, VIEW]):
            for row in alike:
                for other in alike:
                    self.both_ways(put(row, 1, "a"), put(other, 1, "b"))
                    self.both_ways(put(row, 1, "b"), put(other, 1, "ba"))
                    self.both_ways(put(row, 1, "aaz"), put(other, 1, "ab"))
