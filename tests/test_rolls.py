import unittest

from dykelengths.errors import NoName, NoRoll, NoRow, TooMany, Twice
from dykelengths.rolls import roll_of, row_called, up_to, with_row, without_row
from tests.helper import (
    ALONE, BREACH, FORFEIT, JOIN, LAYING, MEASURE, MEND, PART, ROWS, VIEW,
    alones, listed, put, shape, things, untouched,
)

# measure; part, join, forfeit by names; mend, alone by names; breach, view by names.
SORTED = (MEASURE, FORFEIT, JOIN, PART, ALONE, MEND, BREACH, VIEW)
# One day each, so that days and words pull apart.
DAYS = tuple(put(row, 2, 20 - 2 * at) for at, row in enumerate(SORTED))


class RollOf(unittest.TestCase):
    def test_no_rows(self):
        for rows in ((), []):
            self.assertEqual(shape(untouched(self, roll_of, LAYING, rows)), shape((LAYING, ())))

    def test_lists_and_tuples(self):
        for laying in (LAYING, list(LAYING), listed(LAYING), (list(LAYING[0]),) + LAYING[1:]):
            for rows in (ROWS, list(ROWS), listed(ROWS), tuple(listed(ROWS)), ROWS[::-1], list(ROWS[::-1])):
                told = untouched(self, roll_of, laying, rows)
                self.assertEqual(shape(told), shape((LAYING, SORTED)))

    def test_days_go_ahead_of_words(self):
        self.assertEqual(roll_of(LAYING, DAYS)[1], DAYS[::-1])
        self.assertEqual(roll_of(LAYING, DAYS[::-1])[1], DAYS[::-1])

    def test_fields_stay_in_their_order(self):
        self.assertEqual(roll_of(LAYING[::-1], ())[0], LAYING[::-1])

    def test_a_row_several_times(self):
        mixed = put(PART, 4, PART[4][::-1])
        turned = put(JOIN, 3, JOIN[3][::-1])
        rows = list(ROWS) + [PART, listed(PART), mixed, listed(mixed), turned, JOIN] + list(ROWS)
        self.assertEqual(roll_of(LAYING, rows), (LAYING, SORTED))

    def test_forty_rows_and_one_more(self):
        self.assertEqual(roll_of(LAYING, alones(40)), (LAYING, alones(40)))
        self.assertEqual(roll_of(LAYING, alones(40) * 50), (LAYING, alones(40)))
        self.refused(LAYING, alones(41))
        self.refused(LAYING, alones(41) * 2)

    def refused(self, laying, rows):
        with self.assertRaises(NoRoll, msg=repr((laying, rows))[:80]):
            untouched(self, roll_of, laying, rows)

    def test_two_unlike_rows_of_one_name(self):
        for row in ROWS:
            for other in ROWS:
                named = put(put(other, 1, row[1]), 2, row[2])
                if named != row:
                    self.refused(LAYING, [row, named])
                    self.refused(LAYING, [named, row])
            self.refused(LAYING, [row, put(row, 2, 6)])

    def test_a_row_of_a_field_that_is_not_there(self):
        for row in (MEASURE, BREACH, VIEW):
            self.refused(LAYING, [put(row, 3, "north")])
            self.refused(LAYING, [put(row, 3, "ann")])
            self.refused(LAYING[1:2], [row])
        # Lands that don't stand are none of a row's form.
        self.assertEqual(roll_of(LAYING, [put(FORFEIT, 3, "north")])[1], (put(FORFEIT, 3, "north"),))

    def test_what_makes_no_row(self):
        for thing in things() + [put(MEND, 3, "bob"), put(PART, 4, (("a", "b", 1),)), put(BREACH, 5, True), LAYING]:
            self.refused(LAYING, [thing])
            self.refused(LAYING, (PART, thing, VIEW))

    def test_what_holds_no_rows(self):
        for rows in things():
            if rows not in ((), []):
                self.refused(LAYING, rows)
        self.refused(LAYING, PART)
        self.refused(LAYING, {PART: True})

    def test_what_makes_no_laying(self):
        for thing in things() + [PART, LAYING[0]]:
            self.refused(thing, [])
            self.refused(put(LAYING, 1, thing), [])
            for place in range(4):
                if place < 2 or shape(thing) not in (shape(0), shape(1), shape(5)):
                    self.refused(put(LAYING, 1, put(LAYING[1], place, thing)), [])
        self.refused(LAYING + LAYING[:1], [])
        self.refused(tuple((field, "ann", 1, 1) for field in "abcdefghi"), [])

    def test_both_wrong(self):
        self.refused(None, None)
        self.refused((), [None])

    def test_lists_that_are_changed_afterwards(self):
        laying, rows = listed(LAYING), listed(ROWS)
        told = roll_of(laying, rows)
        laying[0][0] = "other"
        laying.pop()
        rows[0][4][0][0] = "other"
        rows[1][3].pop()
        rows.pop()
        self.assertEqual(told, (LAYING, SORTED))


class RowCalled(unittest.TestCase):
    def test_each_row(self):
        roll = roll_of(LAYING, ROWS)
        for row in ROWS:
            self.assertEqual(shape(row_called(roll, row[1])), shape(row))

    def test_no_row_is_called_so(self):
        for roll in (roll_of(LAYING, ROWS), roll_of(LAYING, [])):
            for thing in things() + ["other", "east", "ann", ("pa",), ["pa"], {"pa": 1}, PART]:
                with self.assertRaises(NoName, msg=repr(thing)[:40]):
                    untouched(self, row_called, roll, thing)


class WithRow(unittest.TestCase):
    def test_each_row_goes_to_its_place(self):
        for at, row in enumerate(SORTED):
            roll = (LAYING, SORTED[:at] + SORTED[at + 1:])
            for thing in (row, listed(row)):
                self.assertEqual(shape(untouched(self, with_row, roll, thing)), shape((LAYING, SORTED)))

    def test_parts_and_lands_in_any_order(self):
        roll = (LAYING, ())
        self.assertEqual(with_row(roll, put(PART, 4, PART[4][::-1])), (LAYING, (PART,)))
        self.assertEqual(with_row(roll, put(JOIN, 3, JOIN[3][::-1])), (LAYING, (JOIN,)))

    def refused(self, error, roll, thing):
        with self.assertRaises(error, msg=repr(thing)[:80]):
            untouched(self, with_row, roll, thing)

    def test_no_row_goes_first(self):
        full = (LAYING, alones(40))
        for roll in ((LAYING, ()), roll_of(LAYING, ROWS), full):
            for thing in things() + [put(MEND, 3, "bob"), LAYING]:
                self.refused(NoRow, roll, thing)
            for row in (MEASURE, BREACH, VIEW):
                self.refused(NoRow, roll, put(row, 3, "north"))
        self.refused(NoRow, full, ("alone", "aaa", 10000, "ann"))
        self.refused(NoRow, full, ("measure", "aaa", 3, "north", 1))

    def test_twice_goes_next(self):
        roll = roll_of(LAYING, ROWS)
        for row in ROWS:
            self.refused(Twice, roll, row)
            self.refused(Twice, roll, put(row, 2, 6))
            self.refused(Twice, roll, ("alone", row[1], 0, "zed"))
        full = (LAYING, alones(40))
        self.refused(Twice, full, full[1][0])
        self.refused(Twice, full, ("view", "aaa", 3, "east", 1, "ann"))

    def test_too_many_goes_last(self):
        self.assertEqual(with_row((LAYING, alones(39)), alones(40)[39]), (LAYING, alones(40)))
        self.refused(TooMany, (LAYING, alones(40)), alones(41)[40])

    def test_lists_that_are_changed_afterwards(self):
        handed = listed(PART)
        told = with_row((LAYING, ()), handed)
        handed[4][0][2] = 99
        self.assertEqual(told, (LAYING, (PART,)))


class WithoutRow(unittest.TestCase):
    def test_each_row(self):
        roll = roll_of(LAYING, ROWS)
        for at, row in enumerate(SORTED):
            told = untouched(self, without_row, roll, row[1])
            self.assertEqual(shape(told), shape((LAYING, SORTED[:at] + SORTED[at + 1:])))
            self.assertEqual(with_row(told, row), roll)

    def test_no_row_is_called_so(self):
        for roll in (roll_of(LAYING, ROWS), roll_of(LAYING, [])):
            for thing in things() + ["other", "east", "ann", ("pa",), ["pa"], {"pa": 1}, PART]:
                with self.assertRaises(NoName, msg=repr(thing)[:40]):
                    untouched(self, without_row, roll, thing)


class UpTo(unittest.TestCase):
    def test_days_ahead_between_and_behind(self):
        days = (3, 5, 5, 5, 9)
        rows = [("alone", name, day, "ann") for name, day in zip("edcba", days)]
        roll = roll_of(LAYING, rows)
        for day in range(12):
            self.assertEqual(up_to(roll, day), len([other for other in days if other <= day]), day)

    def test_first_and_last_day(self):
        roll = roll_of(LAYING, [("alone", "a", 0, "ann"), ("alone", "b", 9999, "ann"), ("alone", "c", 9998, "ann")])
        self.assertEqual([up_to(roll, day) for day in (0, 1, 9997, 9998, 9999)], [1, 1, 1, 2, 3])
        late = roll_of(LAYING, [("alone", "a", 1, "ann")])
        self.assertEqual([up_to(late, day) for day in (0, 1, 9999)], [0, 1, 1])

    def test_no_rows(self):
        for day in (0, 5, 9999):
            self.assertEqual(up_to((LAYING, ()), day), 0)
