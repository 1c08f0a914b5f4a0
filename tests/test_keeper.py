import unittest

from dykelengths.errors import NoName, NoRoll, NoRow, NoThen, TooMany
from dykelengths.keeper import Keeper
from dykelengths.lands import words
from dykelengths.rolls import roll_of
from dykelengths.rows import goes_ahead
from dykelengths.states import roll_now, start, taken_back, written
from tests.helper import (
    BREACH, JOIN, LAYING, PART, ROWS, SMALL, alones, changes, letters, listed, made_deeds, put, shape, stood, things,
    untouched,
)

OTHER = put(PART, 2, 9)


def say(keeper, deed):
    word, what = deed
    return keeper.write(what) if word == "write" else keeper.back(what)


def kept(laying, deeds):
    keeper = Keeper(laying)
    for deed in deeds:
        say(keeper, deed)
    return keeper


class Making(unittest.TestCase):
    def test_of_lists_and_tuples(self):
        for laying in (LAYING, listed(LAYING)):
            keeper = untouched(self, Keeper, laying)
            self.assertEqual(shape(keeper.roll()), shape((LAYING, ())))
            self.assertEqual(shape(keeper.deeds()), shape([]))
            self.assertEqual(keeper.then(0), (LAYING, ()))

    def test_of_what_makes_no_laying(self):
        for thing in things() + [LAYING + LAYING[:1], [("a", "b", True, 0)]]:
            self.assertRaises(NoRoll, Keeper, thing)

    def test_the_laying_is_copied(self):
        laying = listed(LAYING)
        keeper = Keeper(laying)
        keeper.write(PART)
        laying[0][2] = 99
        laying.append(["far", "ann", 1, 1])
        self.assertEqual(keeper.roll(), roll_of(LAYING, [PART]))
        self.assertRaises(NoRow, keeper.write, put(BREACH, 3, "far"))


class Deeds(unittest.TestCase):
    def test_write(self):
        keeper = Keeper(LAYING)
        told = untouched(self, keeper.write, listed(PART))
        self.assertEqual(shape(told), shape(([("pa", None, "done")], [("east", 10, 30, "ann", "cid")])))
        self.assertEqual(shape(keeper.roll()), shape(roll_of(LAYING, [PART])))
        self.assertEqual(shape(keeper.deeds()), shape([("write", PART)]))

    def test_parts_and_lands_in_any_order(self):
        keeper = Keeper(LAYING)
        keeper.write(put(PART, 4, PART[4][::-1]))
        keeper.write(put(JOIN, 3, list(JOIN[3][::-1])))
        self.assertEqual(shape(keeper.deeds()), shape([("write", PART), ("write", JOIN)]))
        self.assertEqual(keeper.write(PART), ([], []))

    def test_back(self):
        keeper = kept(LAYING, [("write", PART)])
        told = keeper.back("pa")
        self.assertEqual(shape(told), shape(([("pa", "done", None)], [("east", 10, 30, "cid", "ann")])))
        self.assertEqual(keeper.roll(), (LAYING, ()))
        self.assertEqual(shape(keeper.deeds()), shape([("write", PART), ("back", "pa")]))

    def test_a_second_form(self):
        keeper = kept(LAYING, [("write", PART)])
        self.assertEqual(keeper.write(OTHER), ([("pa", "done", None)], [("east", 10, 30, "cid", "ann")]))
        self.assertEqual(keeper.write(put(PART, 2, 10)), ([], []))
        self.assertEqual(keeper.roll(), (LAYING, ()))

    def test_other_rows_turn(self):
        keeper = kept(LAYING, [
            ("write", ("forfeit", "b", 6, "south", "bob")),
            ("write", ("forfeit", "a", 6, "gone", "bob")),
            ("write", ("forfeit", "c", 7, "east", "ann")),
        ])
        told = keeper.write(PART)
        self.assertEqual(told, (
            [("b", "land", "done"), ("c", "same", "land"), ("pa", None, "done")], [("east", 10, 30, "ann", "bob")]))
        self.assertEqual(keeper.back("pa"), (
            [("b", "done", "land"), ("c", "land", "same"), ("pa", "done", None)], [("east", 10, 30, "bob", "ann")]))

    def test_what_changes_nothing_is_a_deed(self):
        keeper = kept(LAYING, [("write", PART), ("back", "pa")])
        for deed in [("write", PART), ("back", "pa"), ("back", "nobody"), ("write", OTHER), ("write", PART)]:
            many = len(keeper.deeds())
            self.assertEqual(shape(say(keeper, deed)), shape(([], [])))
            self.assertEqual(keeper.deeds()[many:], [deed])
        self.assertEqual(keeper.roll(), (LAYING, ()))

    def test_an_idle_row_alters_nothing(self):
        keeper = kept(LAYING, [("write", PART)])
        self.assertEqual(keeper.write(("forfeit", "f", 9, "east", "bob")), ([("f", None, "land")], []))

    def test_great_fields(self):
        laying = [(letters(number), "ann", 10 ** 6, 10 ** 7) for number in range(8)]
        keeper = Keeper(laying)
        row = ["join", "j", 5, [field for field, _, _, _ in laying[:6]], "all"]
        self.assertEqual(keeper.write(row), ([("j", None, "done")], []))
        parts = [["x", "bob", 4 * 10 ** 6], ["y", "ann", 10 ** 6 + 3], ["z", "bob", 10 ** 6 - 3]]
        told = [(letters(number), 0, 10 ** 6, "ann", "bob") for number in range(4)]
        told.append((letters(5), 3, 10 ** 6, "ann", "bob"))
        self.assertEqual(keeper.write(["part", "p", 6, "all", parts]), ([("p", None, "done")], told))


class Refused(unittest.TestCase):
    def refuses(self, keeper, error, deed, thing):
        before = keeper.roll(), keeper.deeds()
        with self.assertRaises(error):
            deed(thing)
        self.assertEqual((keeper.roll(), keeper.deeds()), before)

    def test_whatever_thing(self):
        keeper = kept(LAYING, [("write", PART), ("back", "jo")])
        for thing in things():
            self.refuses(keeper, NoRow, keeper.write, thing)
            self.refuses(keeper, NoName, keeper.back, thing)
        self.refuses(keeper, NoRow, keeper.write, put(BREACH, 3, "far"))

    def test_forty_rows(self):
        keeper = kept(LAYING, [("write", row) for row in alones(40)])
        self.refuses(keeper, TooMany, keeper.write, PART)
        self.refuses(keeper, NoRow, keeper.write, None)
        self.assertEqual(keeper.write(alones(40)[3]), ([], []))
        keeper.back("aaa")
        self.assertEqual(keeper.write(PART)[0], [("pa", None, "done")])
        self.assertEqual(len(keeper.deeds()), 43)

    def test_sixty_forms(self):
        keeper = kept(LAYING, [("write", put(row, 2, day)) for row in alones(30) for day in (3, 4)])
        self.refuses(keeper, TooMany, keeper.write, PART)
        self.assertEqual(keeper.write(alones(1)[0]), ([], []))

    def test_sixty_backs(self):
        keeper = kept(LAYING, [("back", letters(number)) for number in range(60)])
        self.refuses(keeper, TooMany, keeper.back, "pa")
        self.assertEqual(keeper.back("aaa"), ([], []))
        self.assertEqual(len(keeper.deeds()), 61)


class Then(unittest.TestCase):
    def test_no_then(self):
        keeper = kept(LAYING, [("write", PART), ("back", "pa")])
        for thing in things() + [3, -1, True, False, "1", None, [1], (1,), 10 ** 60]:
            if shape(thing) not in (shape(0), shape(1), shape(2)):
                self.assertRaises(NoThen, keeper.then, thing)
        self.assertRaises(NoThen, Keeper(LAYING).then, 1)

    def test_refused_deeds_are_not_counted(self):
        keeper = Keeper(LAYING)
        self.assertRaises(NoRow, keeper.write, None)
        self.assertRaises(NoName, keeper.back, None)
        self.assertRaises(NoThen, keeper.then, 1)
        keeper.write(PART)
        self.assertEqual(keeper.then(1), roll_of(LAYING, [PART]))

    def test_each_of_many(self):
        keeper = kept(LAYING, [("write", row) for row in ROWS] + [("write", OTHER), ("back", "jo"), ("back", "jo")])
        for many in range(9):
            self.assertEqual(shape(keeper.then(many)), shape(roll_of(LAYING, ROWS[:many])))
        self.assertEqual(keeper.then(9), roll_of(LAYING, ROWS[1:]))
        self.assertEqual(keeper.then(10), roll_of(LAYING, ROWS[2:]))
        self.assertEqual(keeper.then(11), keeper.roll())


class Many(unittest.TestCase):
    def test_acre_by_acre(self):
        for seed in range(12):
            keeper, deeds = Keeper(SMALL), made_deeds(seed)
            for many, deed in enumerate(deeds):
                ahead = keeper.roll()
                told = say(keeper, deed)
                behind = roll_of(SMALL, sorted(stood(deeds[:many + 1])))
                self.assertEqual(shape(keeper.roll()), shape(behind))
                self.assertEqual(shape(told), shape(changes(ahead, behind)))
            self.assertEqual(shape(keeper.deeds()), shape(deeds))

    def test_then_agrees_with_deeds_told_anew(self):
        for seed in range(3):
            deeds = made_deeds(seed)
            keeper = kept(SMALL, deeds)
            for many in range(0, len(deeds) + 1, 3):
                self.assertEqual(keeper.then(many), kept(SMALL, keeper.deeds()[:many]).roll())

    def test_it_keeps_a_state(self):
        for seed in range(6):
            state, keeper = start(SMALL), Keeper(SMALL)
            for word, what in made_deeds(seed):
                state = written(state, what) if word == "write" else taken_back(state, what)
                say(keeper, (word, what))
                self.assertEqual(keeper.roll(), roll_now(state))

    def test_at_most_one_row_comes_or_goes(self):
        for seed in range(12, 30):
            keeper = Keeper(SMALL)
            for deed in made_deeds(seed):
                ahead = keeper.roll()
                rows = dict(zip([row[1] for row in ahead[1]], words(ahead)))
                turned = say(keeper, deed)[0]
                behind = keeper.roll()
                moved = set(ahead[1]) ^ set(behind[1])
                self.assertLessEqual(len(moved), 1)
                named = {row[1]: row for row in ahead[1] + behind[1]}
                if not moved:
                    self.assertEqual(turned, [])
                for row in moved:
                    for name, _, _ in turned:
                        self.assertTrue(name == row[1] or not goes_ahead(named[name], row))
                    others = dict(zip([other[1] for other in behind[1]], words(behind)))
                    for other in behind[1]:
                        if other != row and goes_ahead(other, row):
                            self.assertEqual(rows[other[1]], others[other[1]])

    def test_in_whatever_order(self):
        for seed in range(6):
            deeds = made_deeds(seed)
            self.assertEqual(kept(SMALL, deeds).roll(), kept(SMALL, deeds[::-1] + deeds[:5]).roll())


class Own(unittest.TestCase):
    def test_what_was_told_is_the_askers(self):
        keeper = Keeper(LAYING)
        turned, altered = keeper.write(PART)
        turned.clear()
        altered.append(None)
        deeds = keeper.deeds()
        deeds.append(("back", "pa"))
        self.assertEqual(keeper.deeds(), [("write", PART)])
        self.assertRaises(NoThen, keeper.then, 2)
        turned, altered = keeper.back("nobody")
        turned.append(1)
        altered.append(2)
        self.assertEqual(keeper.back("nobody"), ([], []))
        self.assertEqual(keeper.back("pa"), ([("pa", "done", None)], [("east", 10, 30, "cid", "ann")]))

    def test_later_deeds_change_nothing_told(self):
        keeper = Keeper(LAYING)
        told = keeper.write(PART)
        roll, deeds = keeper.roll(), keeper.deeds()
        keeper.write(JOIN)
        keeper.back("pa")
        self.assertEqual(told, ([("pa", None, "done")], [("east", 10, 30, "ann", "cid")]))
        self.assertEqual((roll, deeds), (roll_of(LAYING, [PART]), [("write", PART)]))

    def test_a_row_is_copied(self):
        keeper, row = Keeper(LAYING), listed(PART)
        keeper.write(row)
        row[4][1][1] = "bob"
        row[4].pop()
        self.assertEqual(keeper.deeds(), [("write", PART)])
        self.assertEqual(keeper.roll(), roll_of(LAYING, [PART]))

    def test_keepers_side_by_side(self):
        one, other = Keeper(LAYING), Keeper(LAYING)
        one.write(PART)
        one.back("br")
        self.assertEqual((other.roll(), other.deeds()), ((LAYING, ()), []))
        other.write(BREACH)
        self.assertEqual(other.roll(), roll_of(LAYING, [BREACH]))
        self.assertEqual(one.roll(), roll_of(LAYING, [PART]))
