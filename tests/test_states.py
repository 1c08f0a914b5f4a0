import unittest
from random import Random

from dykelengths.errors import NoName, NoRoll, NoRow, TooMany
from dykelengths.rolls import roll_of
from dykelengths.states import roll_now, start, taken_back, written
from tests.helper import (
    BREACH, JOIN, LAYING, PART, ROWS, SMALL, VIEW, alones, letters, listed, made_deeds, put, shape, stood, things,
    untouched,
)


def told(state, deeds):
    """The state behind all the deeds."""
    for word, what in deeds:
        state = written(state, what) if word == "write" else taken_back(state, what)
    return state


def of_rows(rows):
    return told(start(LAYING), [("write", row) for row in rows])


class Start(unittest.TestCase):
    def test_tuples_and_lists(self):
        self.assertEqual(shape(start(LAYING)), shape((LAYING, (), ())))
        self.assertEqual(shape(untouched(self, start, listed(LAYING))), shape((LAYING, (), ())))
        self.assertEqual(shape(start([LAYING[0], list(LAYING[1]), LAYING[2]])), shape((LAYING, (), ())))

    def test_no_laying(self):
        for thing in things():
            self.assertRaises(NoRoll, start, thing)
            self.assertRaises(NoRoll, start, [thing])
            for place in range(4):
                self.assertRaises(NoRoll, start, LAYING + (put(("far", "ann", 3, 4), place, 10 ** 8),))
                if place < 2 or thing not in (0, 1, 5):
                    self.assertRaises(NoRoll, start, LAYING + (put(("far", "ann", 3, 4), place, thing),))
        self.assertRaises(NoRoll, start, LAYING + LAYING[:1])
        self.assertRaises(NoRoll, start, [(letters(number), "ann", 3, 4) for number in range(9)])
        self.assertRaises(NoRoll, start, [("far", "ann", True, 4)])
        self.assertRaises(NoRoll, start, [("far", "ann", 1, False)])

    def test_kept_is_a_copy(self):
        laying = listed(LAYING)
        state = start(laying)
        laying[0][1] = "bob"
        laying.pop()
        self.assertEqual(state, start(LAYING))


class Written(unittest.TestCase):
    def test_forms_rise(self):
        state = of_rows(ROWS[::-1])
        self.assertEqual(shape(state), shape((LAYING, tuple(sorted(ROWS)), ())))

    def test_lists_and_any_order(self):
        for row in ROWS:
            made = untouched(self, written, start(LAYING), listed(row))
            self.assertEqual(shape(made), shape((LAYING, (row,), ())))
        self.assertEqual(written(start(LAYING), put(PART, 4, PART[4][::-1])), of_rows([PART]))
        self.assertEqual(written(start(LAYING), put(JOIN, 3, JOIN[3][::-1])), of_rows([JOIN]))

    def test_what_is_there_stays(self):
        state = of_rows(ROWS)
        for row in ROWS:
            self.assertEqual(written(state, row), state)
            self.assertEqual(written(state, listed(row)), state)
        self.assertEqual(written(state, put(PART, 4, PART[4][::-1])), state)
        self.assertEqual(written(state, put(JOIN, 3, list(JOIN[3][::-1]))), state)

    def test_no_row(self):
        for thing in things():
            self.assertRaises(NoRow, written, start(LAYING), thing)
            self.assertRaises(NoRow, written, of_rows(ROWS), thing)
        for row in (BREACH, VIEW, ("measure", "me", 5, "east", 7)):
            self.assertRaises(NoRow, written, start(LAYING), put(row, 3, "far"))
            self.assertRaises(NoRow, written, start(LAYING), put(row, 4, True))
        self.assertRaises(NoRow, written, start(LAYING), put(PART, 4, PART[4] + PART[4][:1]))

    def test_the_state_that_is_handed_in_stays(self):
        state = of_rows([PART])
        untouched(self, written, state, JOIN)
        untouched(self, taken_back, state, "pa")
        self.assertEqual(state, (LAYING, (PART,), ()))

    def test_kept_is_a_copy(self):
        row = listed(PART)
        state = written(start(LAYING), row)
        row[4][0][1] = "bob"
        row[1] = "else"
        self.assertEqual(state, of_rows([PART]))


class Standing(unittest.TestCase):
    def test_roll_now(self):
        self.assertEqual(shape(roll_now(start(LAYING))), shape((LAYING, ())))
        self.assertEqual(shape(untouched(self, roll_now, of_rows(ROWS))), shape(roll_of(LAYING, ROWS)))

    def test_unlike_rows_of_one_name(self):
        other, third = put(PART, 2, 6), put(JOIN, 1, "pa")
        state = of_rows([PART, JOIN])
        for row in (other, third, put(other, 2, 7), other):
            state = written(state, row)
            self.assertEqual(roll_now(state), roll_of(LAYING, [JOIN]))
        self.assertEqual(len(state[1]), 5)

    def test_taken_back(self):
        state = taken_back(of_rows([PART, JOIN]), "pa")
        self.assertEqual(roll_now(state), roll_of(LAYING, [JOIN]))
        self.assertEqual(state[1], tuple(sorted([PART, JOIN])))

    def test_taken_back_ahead_of_its_row(self):
        state = taken_back(start(LAYING), "pa")
        self.assertEqual(shape(state), shape((LAYING, (), ("pa",))))
        state = written(state, PART)
        self.assertEqual(state, (LAYING, (PART,), ("pa",)))
        self.assertEqual(roll_now(state), roll_of(LAYING, []))

    def test_a_name_that_no_row_has(self):
        state = taken_back(of_rows([PART]), "nobody")
        self.assertEqual(state[2], ("nobody",))
        self.assertEqual(roll_now(state), roll_of(LAYING, [PART]))

    def test_names_of_other_things_are_taken_back_as_rows_alone(self):
        state = taken_back(taken_back(of_rows([PART]), "east"), "ann")
        self.assertEqual(roll_now(state), roll_of(LAYING, [PART]))


class TakenBack(unittest.TestCase):
    def test_backs_rise(self):
        state = told(start(LAYING), [("back", name) for name in ("c", "a", "ab", "b")])
        self.assertEqual(shape(state), shape((LAYING, (), ("a", "ab", "b", "c"))))

    def test_what_is_there_stays(self):
        state = told(start(LAYING), [("back", name) for name in ("c", "a")])
        self.assertEqual(taken_back(state, "a"), state)
        self.assertEqual(taken_back(state, "c"), state)

    def test_no_name(self):
        for thing in things() + ["a b", "a\n", "ninesigns", "aA", ["a"], ("a",)]:
            self.assertRaises(NoName, taken_back, start(LAYING), thing)
            self.assertRaises(NoName, taken_back, taken_back(start(LAYING), "a"), thing)


class Bounds(unittest.TestCase):
    def sixty_forms(self):
        """Thirty names, each with two rows: none stands."""
        twins = [put(row, 2, 4) for row in alones(30)]
        return of_rows([row for pair in zip(alones(30), twins) for row in pair])

    def test_sixty_forms(self):
        state = self.sixty_forms()
        self.assertEqual((len(state[1]), roll_now(state)), (60, (LAYING, ())))
        self.assertRaises(TooMany, written, state, PART)
        # One that would not stand is a form, too.
        self.assertRaises(TooMany, written, state, put(alones(1)[0], 2, 5))
        self.assertRaises(TooMany, written, taken_back(state, "pa"), PART)

    def test_what_is_there_is_never_refused(self):
        state = self.sixty_forms()
        for row in state[1]:
            self.assertEqual(written(state, row), state)
        self.assertEqual(len(taken_back(state, "pa")[2]), 1)
        state = of_rows(alones(40))
        self.assertEqual(written(state, listed(alones(40)[39])), state)

    def test_forty_that_stand(self):
        state = of_rows(alones(40))
        self.assertEqual(len(roll_now(state)[1]), 40)
        self.assertRaises(TooMany, written, state, PART)
        self.assertRaises(TooMany, written, of_rows(alones(41)[1:]), alones(1)[0])

    def test_a_form_that_makes_fewer_stand(self):
        state = written(of_rows(alones(40)), put(alones(1)[0], 2, 4))
        self.assertEqual((len(state[1]), len(roll_now(state)[1])), (41, 39))
        state = written(state, put(alones(1)[0], 2, 5))
        state = written(state, PART)
        self.assertEqual((len(state[1]), len(roll_now(state)[1])), (43, 40))
        self.assertRaises(TooMany, written, state, JOIN)

    def test_a_form_that_is_taken_back_already(self):
        state = written(taken_back(of_rows(alones(40)), "pa"), PART)
        self.assertEqual((len(state[1]), len(roll_now(state)[1])), (41, 40))

    def test_a_name_taken_back_makes_room(self):
        state = taken_back(of_rows(alones(40)), letters(7))
        self.assertEqual(len(roll_now(state)[1]), 39)
        self.assertEqual(len(roll_now(written(state, PART))[1]), 40)

    def test_sixty_backs(self):
        state = told(start(LAYING), [("back", letters(number)) for number in range(60)])
        self.assertEqual(len(state[2]), 60)
        self.assertRaises(TooMany, taken_back, state, letters(60))
        for number in range(60):
            self.assertEqual(taken_back(state, letters(number)), state)
        self.assertEqual(len(written(state, PART)[1]), 1)

    def test_which_refusal_goes_first(self):
        for thing in things() + [put(BREACH, 3, "far")]:
            self.assertRaises(NoRow, written, self.sixty_forms(), thing)
            self.assertRaises(NoRow, written, of_rows(alones(40)), thing)
        full = told(start(LAYING), [("back", letters(number)) for number in range(60)])
        for thing in things():
            self.assertRaises(NoName, taken_back, full, thing)


class AnyOrder(unittest.TestCase):
    def test_the_same_state_and_roll(self):
        for seed in range(12):
            deeds = made_deeds(seed)
            state = told(start(SMALL), deeds)
            forms = sorted({row for word, row in deeds if word == "write"})
            backs = sorted({name for word, name in deeds if word == "back"})
            self.assertEqual(shape(state), shape((SMALL, tuple(forms), tuple(backs))))
            self.assertEqual(roll_now(state), roll_of(SMALL, sorted(stood(deeds))))
            Random(seed).shuffle(deeds)
            self.assertEqual(told(start(SMALL), deeds[:9] + deeds), state)
            self.assertEqual(told(start(SMALL), sorted(set(deeds), key=str)), state)
