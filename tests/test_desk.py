import unittest
from random import Random

from dykelengths.burdens import least
from dykelengths.callings import calling
from dykelengths.chains import chain
from dykelengths.desk import Desk
from dykelengths.dues import dues
from dykelengths.errors import (
    DykeError, NoBreach, NoField, NoInch, NoName, NoOrder, NoRow, NoText, NoThen, TooMany,
)
from dykelengths.feet import bearer, runs
from dykelengths.keeper import Keeper
from dykelengths.lands import words
from dykelengths.menders import mends, road
from dykelengths.reader import read_roll
from dykelengths.rolls import up_to
from dykelengths.stands import stands
from dykelengths.texts import deed_text, roll_text, row_text
from dykelengths.views import wrong_views
from tests.helper import (
    LAYING, ROWS, SMALL, alones, letters, made_deeds, made_question, nested, shape, things, untouched,
)

FIELDS = "field east ann 30 600\nfield mid bob 7 0\nfield west ann 20 100"
PART = "part pa 5 east north ann 10 south cid 20"
TOLD = (
    "write " + PART,
    "write forfeit fo 6 north bob",
    "write mend me 7 cid ann",
    "write breach br 8 east 200 1001 20",
    "write breach bs 8 west 0 7 3",
    "write view vi 9 east 0 ann",
    "write view vj 9 east 599 cid",
    "write breach idle 9 mid 0 5 5",
)


def told(*orders):
    """A desk to which these were told."""
    desk = Desk(FIELDS)
    for order in orders:
        desk.say(order)
    return desk


class Case(unittest.TestCase):
    def refuses(self, desk, error, *orders):
        """Each is refused with just this error, and changes nothing."""
        before = snapshot(desk)
        for order in orders:
            with self.assertRaises(DykeError, msg=repr(order)[:200]) as caught:
                untouched(self, desk.say, order)
            self.assertIs(type(caught.exception), error, order)
            if error is NoText:
                self.assertEqual(shape(caught.exception.line), shape(0))
        self.assertEqual(snapshot(desk), before)

    def says(self, desk, order, *lines):
        told = desk.say(order)
        self.assertIs(type(told), str)
        self.assertEqual(told, "\n".join(lines), order)


def snapshot(desk):
    """What the desk kept, as it is told: its roll, and the rolls behind each of its deeds."""
    rolls = [desk.say("roll")]
    while True:
        try:
            rolls.append(desk.say(f"then {len(rolls) - 1}"))
        except NoThen:
            return rolls


class Making(Case):
    def test_of_a_roll_without_rows(self):
        self.says(Desk(FIELDS), "roll", FIELDS)
        self.says(Desk("field field as 1 0"), "roll", "field field as 1 0")

    def test_of_what_is_none(self):
        for thing in things() + [LAYING, (LAYING, ()), None]:
            with self.assertRaises(NoText) as caught:
                Desk(thing)
            self.assertEqual(shape(caught.exception.line), shape(0))

    def test_of_wrong_lines(self):
        for text, line in (("", 0), (FIELDS + "\n", 3), (FIELDS + "\nfield east ann 1 1", 3), ("alone a 1 b", 0),
                           (FIELDS + "\nfield a b 0 1\n" + PART, 3), ("field a b 01 1", 0), (" " + FIELDS, 0)):
            with self.assertRaises(NoText) as caught:
                Desk(text)
            self.assertEqual(shape(caught.exception.line), shape(line))

    def test_of_a_roll_with_rows(self):
        for fields in (FIELDS, "field east ann 1 1"):
            for many in (1, 2, 40):
                with self.assertRaises(NoText) as caught:
                    Desk("\n".join([fields] + [row_text(row) for row in alones(many)]))
                self.assertEqual(shape(caught.exception.line), shape(len(fields.split("\n"))))


class Deeds(Case):
    def test_write(self):
        desk = Desk(FIELDS)
        self.says(desk, "write forfeit fo 6 south bob", "ok", "turned fo - land")
        self.says(desk, "write " + PART, "ok", "turned fo land done", "turned pa - done", "altered east 10 30 ann bob")
        self.says(desk, "write " + PART, "ok")
        self.says(desk, "write part pb 7 north e dan 1 f eve 9",
                  "ok", "turned pb - done", "altered east 0 1 ann dan", "altered east 1 10 ann eve")

    def test_back(self):
        desk = told("write " + PART, "write forfeit fo 6 south bob")
        self.says(desk, "back nobody", "ok")
        self.says(desk, "back pa", "ok", "turned fo done land", "turned pa done -", "altered east 10 30 bob ann")
        self.says(desk, "back pa", "ok")
        self.says(desk, "write " + PART, "ok")
        self.says(desk, "words", "fo land")

    def test_a_second_form(self):
        desk = told("write " + PART)
        self.says(desk, "write alone pa 9 ann", "ok", "turned pa done -", "altered east 10 30 cid ann")
        self.says(desk, "words", "none")

    def test_each_form(self):
        for row in ROWS:
            self.assertEqual(told("write " + row_text(row)).say("roll"), f"{FIELDS}\n{row_text(row)}")

    def test_names_like_words(self):
        desk = Desk("field as with 3 3\nfield with as 4 4\nfield none with 5 5")
        self.says(desk, "write join as 1 as none as with", "ok", "turned as - name")
        self.says(desk, "write join with 1 as none as as", "ok", "turned with - done")
        self.says(desk, "write alone none 1 none", "ok", "turned none - none")
        self.says(desk, "words", "as name", "with done", "none none")
        self.says(desk, "back as", "ok", "turned as name -")
        self.says(desk, "whose none 0 1", "as with with")
        self.says(desk, "road as 1", "as")

    def test_refused(self):
        desk = told("write " + PART)
        self.refuses(desk, NoText, "write ", "write  " + PART, "write " + PART + " ", "write alone", "write alone a 01 b",
                     "write field far ann 1 1", "write back pa", "write write " + PART, "write x", "write alone a 1 B",
                     "write part a 1 east d ann 15 c bob 15", "write join a 1 west east as big", "write mend a 1 b b")
        self.refuses(desk, NoRow, "write measure a 1 far 1", "write breach a 1 far 1 1 1", "write view a 1 far 1 ann")
        self.refuses(desk, NoName, "back ", "back A", "back ninesigns", "back 1", "back a.b", "back -", "back " + "x" * 9000)
        self.refuses(desk, NoOrder, "write", "back", "back pa pa", "back  pa", "back pa ", " back pa", "Back pa",
                     " write " + PART, "Write " + PART, "write\n" + PART, "write " + PART + "\n", "back pa\n")


class Bounds(Case):
    def test_forty_rows(self):
        desk = told(*[f"write {row_text(row)}" for row in alones(40)])
        self.refuses(desk, TooMany, "write " + PART, "write alone x 1 b")
        self.refuses(desk, NoRow, "write measure x 1 far 1")
        self.refuses(desk, NoText, "write alone x 1")
        self.says(desk, "write alone aaa 3 ann", "ok")
        self.says(desk, "write alone aaa 4 ann", "ok", "turned aaa none -")
        self.says(desk, "write " + PART, "ok", "turned pa - done", "altered east 10 30 ann cid")
        self.refuses(desk, TooMany, "write alone x 1 b")

    def test_sixty_forms(self):
        desk = told(*[f"write alone {letters(number // 2)} {number % 2} ann" for number in range(60)])
        self.refuses(desk, TooMany, "write " + PART, "write alone aaa 2 ann")
        self.says(desk, "write alone aaa 1 ann", "ok")
        self.says(desk, "roll", FIELDS)

    def test_sixty_backs(self):
        desk = told(*[f"back {letters(number)}" for number in range(60)])
        self.refuses(desk, TooMany, "back pa")
        self.refuses(desk, NoName, "back Pa")
        self.says(desk, "back aaa", "ok")


class Telling(Case):
    def test_roll_and_then(self):
        desk = told(*TOLD)
        self.says(desk, "then 0", FIELDS)
        self.says(desk, "then 1", FIELDS, PART)
        self.says(desk, "then 2", FIELDS, PART, "forfeit fo 6 north bob")
        self.assertEqual(desk.say("then 8"), desk.say("roll"))
        rows = [order.removeprefix("write ") for order in TOLD]
        self.says(desk, "roll", FIELDS, *rows[:5], rows[7], *rows[5:7])

    def test_then_refused(self):
        desk = told(*TOLD)
        self.refuses(desk, NoThen, "then 9", "then 10", "then " + "9" * 60)
        self.refuses(desk, NoOrder, "then", "then ", "then x", "then -1", "then +1", "then 01", "then 00", "then 1 1",
                     "then  1", "then 1 ", "then 1.0", "then " + "9" * 61, "then " + "0" * 60, "then 1" + "0" * 9000,
                     "then 1\n", "roll ", "roll 1", " roll", "Roll", "roll\n", "roll roll")

    def test_words(self):
        self.says(Desk(FIELDS), "words", "none")
        self.says(told(*TOLD), "words", "pa done", "fo done", "me done", "br done", "bs done", "idle inch", "vi done",
                  "vj done")
        self.refuses(told(*TOLD), NoOrder, "words ", "words 1", " words", "words\n")

    def test_runs(self):
        desk = told(*TOLD)
        self.says(desk, "runs 4", "0 600 east ann", "600 700 west ann")
        self.says(desk, "runs 5", "0 200 north ann", "200 600 south cid", "600 700 west ann")
        self.says(desk, "runs 9999", "0 200 north bob", "200 600 south cid", "600 700 west ann")
        self.says(Desk("field a b 1 0"), "runs 0", "none")
        self.refuses(desk, NoOrder, "runs", "runs ", "runs 10000", "runs -1", "runs 05", "runs x", "runs 5 5", "runs  5",
                     "runs 5 ", "runs " + "1" * 60, "runs " + "1" * 61)

    def test_whose(self):
        desk = told(*TOLD)
        self.says(desk, "whose east 200 4", "east ann ann")
        self.says(desk, "whose east 200 5", "south cid cid")
        self.says(desk, "whose east 200 7", "south cid ann")
        self.says(desk, "whose west 99 9999", "west ann ann")

    def test_chain(self):
        desk = told(*TOLD)
        self.says(desk, "chain east 0 4", "-:east:ann")
        self.says(desk, "chain east 0 9999", "-:east:ann pa:north:ann fo:north:bob")

    def test_fields_and_inches_refused(self):
        desk = told(*TOLD, "write measure mm 5 mid 4")
        for word in ("whose", "chain"):
            self.refuses(desk, NoOrder, *[f"{word}{rest}" for rest in (
                "", " east", " east 0", " east 0 5 5", " east x 5", " east 0 x", " east 0 10000", " east 00 5", " east 0 05",
                " east  5", " east 0 ", " east -1 5", " east +1 5", " far x 5", " far 0 10000", "  0 10000", " east 1.0 5",
                f" east {'9' * 61} 5", f" east 0 {'9' * 61}", f" far {'9' * 61} 5", "  east 0 5", " east 0 5 ")])
            self.refuses(desk, NoField, *[f"{word}{rest}" for rest in (
                " far 0 5", "  0 5", " north 0 9", " East 0 5", " ann 0 5", f" far {'9' * 60} 5", " ninesigns 0 5")])
            self.refuses(desk, NoInch, *[f"{word}{rest}" for rest in (
                " east 600 5", " mid 0 4", " mid 4 5", f" east {'9' * 60} 5", " west 100 9999")])
        self.says(desk, "whose mid 3 5", "mid bob bob")

    def test_dues(self):
        desk = told(*TOLD)
        self.says(desk, "dues br", "ann 351", "bob 299", "cid 351")
        self.says(desk, "dues bs", "ann 2", "bob 3", "cid 2")
        self.refuses(desk, NoName, "dues ", "dues nobody", "dues BR", "dues 1", "dues .", "dues east")
        self.refuses(desk, NoBreach, "dues pa", "dues idle", "dues vi")
        self.refuses(desk, NoOrder, "dues", "dues br 9", "dues  br", "dues br ")

    def test_wrong(self):
        self.says(Desk(FIELDS), "wrong", "none")
        self.says(told(*TOLD), "wrong", "vi ann bob")
        self.says(told(*TOLD, "write view vh 9 west 0 none"), "wrong", "vh none ann", "vi ann bob")
        self.refuses(told(*TOLD), NoOrder, "wrong ", "wrong 9")

    def test_road(self):
        desk = told(*TOLD, "write mend mf 9 ann zed")
        self.says(desk, "road cid 6", "cid")
        self.says(desk, "road cid 7", "cid ann")
        self.says(desk, "road cid 9", "cid ann zed")
        self.says(desk, "road nobody 9999", "nobody")
        self.refuses(desk, NoOrder, "road", "road cid", "road cid 10000", "road cid x", "road CID 9", "road  9", "road cid ",
                     "road cid 9 9", "road cid 09", "road ninesigns 9", "road 9 cid", "road - 9", "road cid\n 9")


class Breaches(Case):
    def test_calls(self):
        desk = told(*TOLD)
        self.says(desk, "calls 9 0 br bs with ann:23", "calls ann:br:20 ann:bs:3")
        self.says(desk, "calls 9 0 bs br with ann:22 bob:5", "short br bs")
        self.says(desk, "calls 9 1 br with ann:15 bob:5", "calls ann:br:15 bob:br:5")
        self.says(desk, "calls 9 0 br with ann:15 bob:5", "short br")
        self.says(desk, "calls 8 1000000000 bs with cid:3 ann:0 bob:1000000000", "calls bob:bs:3")

    def test_none_asked_of(self):
        desk = told(*TOLD)
        self.says(desk, "calls 9 0 with", "calls .")
        self.says(desk, "calls 0 0 with ann:3", "calls .")
        self.says(desk, "least 9 0 with", "least 0 .")
        self.says(desk, "least 9 0 with ann:0", "least 0 .")
        self.says(desk, "calls 9 0 br with", "short br")
        self.says(desk, "least 9 0 br with", "never br")

    def test_least(self):
        desk = told(*TOLD)
        self.says(desk, "least 9 0 br bs with ann:1", "least 23 ann:br:20 ann:bs:3")
        self.says(desk, "least 9 0 br bs with ann:7", "least 4 ann:br:20 ann:bs:3")
        self.says(desk, "least 9 0 br bs with bob:7", "never br bs")
        self.says(desk, "least 9 0 bs with ann:1000000000", "least 1 ann:bs:3")

    def test_names_like_words(self):
        desk = told("write breach with 1 east 0 0 5", "write breach as 1 west 0 0 5", "write breach none 1 east 1 0 0",
                    "write mend x 1 ann with")
        self.says(desk, "calls 1 0 with with with:5", "calls with:with:5")
        self.says(desk, "calls 1 0 with as with with:10", "calls with:as:5 with:with:5")
        self.says(desk, "calls 1 0 as with with", "short as with")
        self.says(desk, "calls 1 0 none with", "calls .")
        self.says(desk, "least 1 0 none with with with:1", "least 5 with:with:5")
        self.says(desk, "calls 1 0 as with", "short as")

    def test_orders_refused(self):
        desk = told(*TOLD)
        many = " ".join(letters(number) for number in range(13))
        for word in ("calls", "least"):
            self.refuses(desk, NoOrder, *[f"{word}{rest}" for rest in (
                "", " 9", " 9 0", " 9 0 br", " 9 0 br ann:1", " 9 with", " with", " 9 with 0", " with 9 0", " 9 0 ",
                " 10000 0 br with", " 9 1000000001 br with", " x 0 br with", " 9 x br with", " 09 0 br with",
                " 9 00 br with", " 9 -1 br with", "  0 br with", " 9  br with", " 9 0  with", " 9 0 br  with",
                " 9 0 br with ", " 9 0 br with  ann:1", " 9 0 br with ann:1 ", " 9 0 BR with ann:1", " 9 0 br. with ann:1",
                " 9 0 ninesigns with", " 9 0 1 with", " 9 0 br with ann", " 9 0 br with ann:", " 9 0 br with :1",
                " 9 0 br with ann:1:1", " 9 0 br with ann:-1", " 9 0 br with ann:01", " 9 0 br with ann:1000000001",
                " 9 0 br with ANN:1", " 9 0 br with ann:x", " 9 0 br with ann:1 ann:1", " 9 0 br with ann:1 bob:2 ann:3",
                " 9 0 br br with ann:1", " 9 0 br bs br with", " 9 0 nobody nobody with", " 9 0 with with with with",
                f" 9 0 {many} with", f" 9 {'1' * 61} br with", f" {'1' * 61} 0 br with", f" 9 0 br with ann:{'1' * 61}",
                " 9 0 br ann:1 with", " 9 0 br with ann:1 with", " 9 0 br with ann=1", " 9 0 br With ann:1",
                " 9 0 br with ann:1\n", "  9 0 br with ann:1")])

    def test_bounds_that_are_kept(self):
        desk = told(*TOLD)
        twelve = [f"write breach {letters(number)} 9 east 0 0 1" for number in range(12)]
        for order in twelve:
            desk.say(order)
        names = " ".join(letters(number) for number in range(12))
        self.says(desk, f"calls 9999 1000000000 {names} with ann:1000000000 bob:0",
                  "calls " + " ".join(f"ann:{letters(number)}:1" for number in range(12)))
        self.refuses(desk, NoOrder, f"calls 9 0 {names} br with ann:1", f"least 9 0 {names} nobody with ann:1")

    def test_stages_refuse(self):
        desk = told(*TOLD, "write measure mz 10 west 0")
        for word in ("calls", "least"):
            self.refuses(desk, NoName, f"{word} 9 0 nobody with", f"{word} 7 0 br with ann:1", f"{word} 9 0 br nobody pa with",
                         f"{word} 9 0 with with", f"{word} 9 0 nobody pa with")
            self.refuses(desk, NoBreach, f"{word} 9 0 pa with", f"{word} 9 0 idle with ann:1", f"{word} 9 0 br pa nobody with")
            self.refuses(desk, NoInch, f"{word} 10 0 bs with", f"{word} 10 0 br bs nobody with", f"{word} 10 0 bs pa with")
            self.refuses(desk, NoOrder, f"{word} 9 0 nobody with x", f"{word} 10 0 bs with ann:1 ann:2")

    def test_many_questions(self):
        for seed in range(60):
            roll, at, names, spades, reach = made_question(seed)
            desk = Desk(roll_text((roll[0], ())))
            for row in roll[1]:
                desk.say("write " + row_text(row))
            pairs = [f"{house}:{many}" for house, many in spades.items()]
            asked = " ".join(["9", str(reach)] + names + ["with"] + pairs)
            word, paper = calling(roll, at, names, spades, reach)
            if word == "calls":
                paper = [f"{house}:{breach}:{many}" for house, breach, many in paper]
            self.says(desk, "calls " + asked, " ".join([word] + (paper or ["."])))
            word, *rest = least(roll, at, names, spades, reach)
            if word == "least":
                paper = [str(rest[0])] + ([f"{house}:{breach}:{many}" for house, breach, many in rest[1]] or ["."])
            else:
                paper = rest[0]
            self.says(desk, "least " + asked, " ".join([word] + paper))


class Stands(Case):
    def test_stands(self):
        desk = told(*TOLD)
        roll = read_roll(desk.say("roll"))
        self.says(desk, "stands 9 50 bob", " ".join(str(place) for place in stands(roll, 8, ["bob"], 50)[0]))
        self.says(desk, "stands 9 1000000000 bob ann", str(stands(roll, 8, ["ann", "bob"], 10 ** 9)[0][0]))

    def test_nothing_wanted(self):
        desk = told(*TOLD)
        self.says(desk, "stands 9 0", ".")
        self.says(desk, "stands 9 5 nobody", ".")
        self.says(desk, "stands 9 0 cid", ".")

    def test_refused(self):
        desk = told(*TOLD)
        self.refuses(desk, TooMany, "stands 9 0 ann", "stands 4 0 ann bob")
        self.refuses(desk, NoOrder, "stands", "stands 9", "stands 9 ", "stands  0", "stands 9 0 ", "stands 9 0  ann",
                     "stands 9 0 Ann", "stands 9 0 ann ann", "stands 9 0 ann bob ann", "stands 9 0 nobody nobody",
                     "stands 10000 0 bob", "stands 9 1000000001 bob", "stands 9 01 bob", "stands 09 1 bob", "stands x 1 bob",
                     "stands 9 x bob", "stands 9 -1 bob", "stands 9 0 ninesigns", "stands 9 0 1", "stands 9 0 bob\n",
                     "stands 9 " + "1" * 61, "stands " + "1" * 61 + " 9", "stands 9 0 bob:1")


class NoSuchOrder(Case):
    def test_whatever_thing(self):
        desk = told(*TOLD)
        self.refuses(desk, NoOrder, *[thing for thing in things()])
        self.refuses(desk, NoOrder, None, ["roll"], ("roll",), {"roll": 1}, True, 3, nested(list, 60))

    def test_other_words(self):
        desk = told(*TOLD)
        self.refuses(desk, NoOrder, "", " ", "  ", "\n", "roll\nroll", "rolls", "none", "ok", "field", "field a b 1 1", "alone",
                     "alone a 1 b", "turned", "altered", "short br", "never br", "with", "as", "-", ".", "say roll", "deeds",
                     "needs br", "keep roll", "x" * 20000, " " * 20000)


class Many(Case):
    def test_agrees_with_a_keeper(self):
        for seed in range(6):
            desk, keeper = Desk(roll_text((SMALL, ()))), Keeper(SMALL)
            for word, what in made_deeds(seed):
                turned, altered = keeper.write(what) if word == "write" else keeper.back(what)
                lines = ["ok"] + [f"turned {name} {ahead or '-'} {behind or '-'}" for name, ahead, behind in turned]
                lines += ["altered " + " ".join(str(thing) for thing in row) for row in altered]
                self.says(desk, deed_text((word, what)), *lines)
            for many in range(len(keeper.deeds()) + 1):
                self.says(desk, f"then {many}", roll_text(keeper.then(many)))
            self.refuses(desk, NoThen, f"then {len(keeper.deeds()) + 1}")

    def test_agrees_with_the_stages(self):
        for seed in range(6):
            chance, desk, keeper = Random(seed), Desk(roll_text((SMALL, ()))), Keeper(SMALL)
            for word, what in made_deeds(seed):
                desk.say(deed_text((word, what)))
                keeper.write(what) if word == "write" else keeper.back(what)
                if not chance.randrange(8):
                    self.check(desk, keeper.roll(), chance)

    def check(self, desk, roll, chance):
        day = chance.choice((0, 5, 9, 20, 40, 120, 9999))
        at = up_to(roll, day)
        self.says(desk, "words", *([f"{row[1]} {word}" for row, word in zip(roll[1], words(roll))] or ["none"]))
        self.says(desk, f"runs {day}", *([" ".join(map(str, row)) for row in runs(roll, at)] or ["none"]))
        self.says(desk, "wrong", *([" ".join(row) for row in wrong_views(roll)] or ["none"]))
        for house in ("ann", "bob", "cid"):
            self.says(desk, f"road {house} {day}", " ".join(road(roll, at, house)))
            places = " ".join(str(place) for place in stands(roll, at, [house], 1)[0])
            self.says(desk, f"stands {day} 1 {house}", places or ".")
        for row, word in zip(roll[1], words(roll)):
            if row[0] == "breach" and word == "done":
                self.says(desk, f"dues {row[1]}", *[f"{house} {pence}" for house, pence in dues(roll, row[1])])
            else:
                self.assertRaises(NoBreach, desk.say, f"dues {row[1]}")
        for field, _, _, _ in SMALL:
            inch = chance.randrange(9)
            try:
                land, house = bearer(roll, at, field, inch)
            except NoInch:
                self.assertRaises(NoInch, desk.say, f"whose {field} {inch} {day}")
                self.assertRaises(NoInch, desk.say, f"chain {field} {inch} {day}")
                continue
            self.says(desk, f"whose {field} {inch} {day}", f"{land} {house} {mends(roll, at, house)}")
            links = " ".join(f"{row or '-'}:{land}:{house}" for row, land, house in chain(roll, at, field, inch))
            self.says(desk, f"chain {field} {inch} {day}", links)

    def test_in_whatever_order(self):
        for seed in range(4):
            deeds = made_deeds(seed)
            one, other = Desk(roll_text((SMALL, ()))), Desk(roll_text((SMALL, ())))
            for deed in deeds:
                one.say(deed_text(deed))
            for deed in deeds[::-1] + deeds[:9]:
                other.say(deed_text(deed))
            for order in ("roll", "words", "wrong", "runs 20", "runs 9999", "road ann 9999"):
                self.assertEqual(one.say(order), other.say(order))

    def test_desks_side_by_side(self):
        one, other = Desk(FIELDS), Desk(FIELDS)
        one.say("write " + PART)
        self.says(other, "roll", FIELDS)
        other.say("back pa")
        self.says(one, "roll", FIELDS, PART)
        self.refuses(one, NoThen, "then 2")

    def test_a_great_dyke(self):
        laying = tuple((letters(number), "ann", 10 ** 6, 10 ** 7) for number in range(8))
        desk = Desk(roll_text((laying, ())))
        desk.say("write part p 1 aaa x bob 1 y ann 999999")
        desk.say("write breach b 2 aah 9999999 1000000000 1000000")
        self.says(desk, "runs 1", "0 10 x bob", "10 10000000 y ann", *[
            f"{number}0000000 {number + 1}0000000 {letters(number)} ann" for number in range(1, 8)])
        self.says(desk, "dues b", "ann 999999875", "bob 125")
        self.says(desk, "least 2 1000000000 b with ann:1 bob:1", "least 500000 ann:b:500000 bob:b:500000")
