"""What is promised over the whole program: its interface, its papers, and whose its answers are."""

import importlib
import inspect
import unittest
from copy import deepcopy
from random import Random

from dykelengths.burdens import least, shows_least
from dykelengths.callings import calling, shows_calling, shows_short
from dykelengths.chains import chain, shows_chain
from dykelengths.clashes import first_clash, is_first_clash
from dykelengths.desk import Desk
from dykelengths.dues import dues
from dykelengths.errors import DykeError, NoInch
from dykelengths.feet import long, runs
from dykelengths.keeper import Keeper
from dykelengths.lands import lands, words
from dykelengths.menders import is_road, road, tended
from dykelengths.paperreader import read_calling, read_chain, read_names
from dykelengths.papertexts import calling_text, chain_text, names_text
from dykelengths.reach import reached
from dykelengths.reader import read_deed, read_roll
from dykelengths.rolls import roll_of, with_row
from dykelengths.stands import shows_stands, stands
from dykelengths.states import roll_now, start, taken_back, written
from dykelengths.texts import deed_text, roll_text
from dykelengths.views import wrong_views
from tests.helper import LAYING, ROWS, SMALL, listed, made_deeds, made_question, made_rolls, put, shape, stood

INTERFACE = {
    "names": {"is_name": 1},
    "rows": {"is_laying": 1, "is_row": 1, "row_of": 1, "field_of": 1, "goes_ahead": 2},
    "rolls": {"roll_of": 2, "row_called": 2, "with_row": 2, "without_row": 2, "up_to": 2},
    "lands": {"words": 1, "lands": 2, "inches_of": 3},
    "shares": {"share": 4, "shares": 2},
    "feet": {"long": 2, "place_of": 4, "at_place": 3, "bearer": 4, "runs": 2, "length_of": 3},
    "dues": {"dues": 2, "due": 3},
    "chains": {"chain_of_acre": 4, "chain": 4, "shows_chain": 6},
    "views": {"wrong_views": 1},
    "menders": {"road": 3, "mends": 3, "is_road": 4, "ring": 2, "tended": 2},
    "clashes": {"first_clash": 2, "is_first_clash": 3},
    "reach": {"reached": 4, "needs": 3},
    "callings": {"calling": 5, "shows_calling": 6, "shows_short": 6},
    "burdens": {"least": 5, "shows_least": 6},
    "stands": {"stands": 4, "shows_stands": 5},
    "states": {"start": 1, "written": 2, "taken_back": 2, "roll_now": 1},
    "keeper": {"Keeper": 1},
    "renamed": {"called": 4},
    "texts": {"row_text": 1, "roll_text": 1, "deed_text": 1},
    "reader": {"read_row": 1, "read_roll": 1, "read_deed": 1},
    "papertexts": {"chain_text": 1, "calling_text": 1, "names_text": 1, "places_text": 1},
    "paperreader": {"read_chain": 1, "read_calling": 1, "read_names": 1},
    "desk": {"Desk": 1},
}
METHODS = {
    ("keeper", "Keeper"): {"write": 1, "back": 1, "roll": 0, "then": 1, "deeds": 0},
    ("desk", "Desk"): {"say": 1},
}
ERRORS = ("NoRow", "NoRoll", "NoName", "Twice", "TooMany", "NoBreach", "NoMend", "NoInch", "NoThen", "Clash", "NoField",
          "NoOrder", "NoText")

ROLL = roll_of(LAYING, ROWS + (("breach", "bs", 6, "west", 4, 7, 3), ("mend", "mx", 6, "bob", "ann")))
MANY = len(ROLL[1])
STATE = (LAYING, tuple(sorted(ROWS)), ("bob", "jo"))
SPADES = {"ann": 30, "bob": 40}
LINKS = chain(ROLL, MANY, "west", 4)


def arguments():
    """For each function of the interface things to hand in, lists where lists are taken."""
    return {
        "is_name": [["a"], [["a"]]],
        "is_laying": [[LAYING], [listed(LAYING)]],
        "is_row": [[row] for row in ROWS] + [[listed(row)] for row in ROWS],
        "row_of": [[row] for row in ROWS] + [[listed(row)] for row in ROWS],
        "field_of": [[row] for row in ROWS],
        "goes_ahead": [[ROWS[0], ROWS[3]]],
        "roll_of": [[listed(LAYING), listed(ROWS)], [LAYING, ROWS]],
        "row_called": [[ROLL, "pa"]],
        "with_row": [[ROLL, ["alone", "x", 3, "ann"]], [ROLL, listed(put(ROWS[0], 1, "x"))]],
        "without_row": [[ROLL, "pa"]],
        "up_to": [[ROLL, 5]],
        "words": [[ROLL]],
        "lands": [[ROLL, at] for at in range(MANY + 1)],
        "inches_of": [[ROLL, MANY, "east"]],
        "share": [[10, 7, 2, 5]],
        "shares": [[10, [3, 0, 4]]],
        "long": [[ROLL, MANY]],
        "place_of": [[ROLL, MANY, "west", 4]],
        "at_place": [[ROLL, MANY, 604]],
        "bearer": [[ROLL, MANY, "west", 4]],
        "runs": [[ROLL, at] for at in range(MANY + 1)],
        "length_of": [[ROLL, 0, "east"]],
        "dues": [[ROLL, "br"]],
        "due": [[ROLL, "br", "ann"]],
        "chain_of_acre": [[ROLL, MANY, "east", 11]],
        "chain": [[ROLL, MANY, "west", 4]],
        "shows_chain": [[ROLL, MANY, "west", 4, LINKS[-1][2], list(LINKS)], [ROLL, MANY, "west", 4, ["a"], {"a": [1]}]],
        "wrong_views": [[ROLL]],
        "road": [[ROLL, 5, "ann"], [ROLL, MANY, "bob"]],
        "mends": [[ROLL, MANY, "ann"]],
        "is_road": [[ROLL, MANY, "ann", ["ann", "bob"]]],
        "ring": [[ROLL, "mx"], [ROLL, "mend"]],
        "tended": [[ROLL, MANY]],
        "first_clash": [[ROLL, (LAYING, ())], [ROLL, ROLL]],
        "is_first_clash": [[ROLL, (LAYING, ()), [5, ["a"]]]],
        "reached": [[ROLL, MANY, ["br", "bs"], 5]],
        "needs": [[ROLL, MANY, ["bs", "br"]]],
        "calling": [[ROLL, MANY, ["br", "bs"], dict(SPADES), 5], [ROLL, MANY, ["br", "bs"], {}, 5]],
        "shows_calling": [[ROLL, MANY, ["br", "bs"], dict(SPADES), 5, [["ann", "br", 3]]]],
        "shows_short": [[ROLL, MANY, ["br", "bs"], {}, 5, ["br", "bs"]]],
        "least": [[ROLL, MANY, ["br", "bs"], {"ann": 3, "bob": 1}, 5], [ROLL, MANY, ["br", "bs"], {}, 5]],
        "shows_least": [[ROLL, MANY, ["br", "bs"], {"ann": 3}, 5, ["least", 3, []]]],
        "stands": [[ROLL, MANY, ["bob", "ann", "bob"], 9]],
        "shows_stands": [[ROLL, MANY, ["bob", "ann"], 9, ([3, 5], [1, 2])]],
        "start": [[LAYING], [listed(LAYING)]],
        "written": [[STATE, listed(ROWS[0])], [STATE, ["alone", "x", 3, "ann"]]],
        "taken_back": [[STATE, "jo"], [STATE, "x"]],
        "roll_now": [[STATE]],
        "called": [[ROLL, {"pa": "x"}, {"east": "far"}, {"ann": "dan"}]],
        "row_text": [[row] for row in ROWS],
        "roll_text": [[ROLL]],
        "deed_text": [[("write", ROWS[0])], [("back", "pa")]],
        "read_row": [["join b 9 n s as big"]],
        "read_roll": [[roll_text(ROLL)]],
        "read_deed": [["write join b 9 n s as big"], ["back pa"]],
        "chain_text": [[list(LINKS)]],
        "calling_text": [[[("ann", "br", 3)]], [[]]],
        "names_text": [[["ann", "bob"]], [[]]],
        "places_text": [[[3, 5]], [[]]],
        "read_chain": [["-:a:b c:d:e"]],
        "read_calling": [["a:b:1 b:b:2"], ["."]],
        "read_names": [["a b"], ["."]],
    }


def every_call():
    """Tuples (function, arguments) over the whole interface, the classes aside."""
    told = []
    handed = arguments()
    for module, names in INTERFACE.items():
        for name in names:
            if name not in ("Keeper", "Desk"):
                told += [(getattr(importlib.import_module(f"dykelengths.{module}"), name), some) for some in handed[name]]
    return told


def spoil(thing):
    """Changes all in a thing that can be changed."""
    if isinstance(thing, (list, tuple)):
        for inner in thing:
            spoil(inner)
    if isinstance(thing, dict):
        for inner in thing.values():
            spoil(inner)
        thing["spoiled"] = 1
    if isinstance(thing, list):
        thing.reverse()
        thing.append("spoiled")


class Interface(unittest.TestCase):
    def test_functions_and_classes(self):
        for module, names in INTERFACE.items():
            for name, many in names.items():
                found = getattr(importlib.import_module(f"dykelengths.{module}"), name)
                self.assertEqual(len(inspect.signature(found).parameters), many, name)
                self.assertEqual(found.__module__, f"dykelengths.{module}")
        for (module, name), methods in METHODS.items():
            found = getattr(importlib.import_module(f"dykelengths.{module}"), name)
            for method, many in methods.items():
                self.assertEqual(len(inspect.signature(getattr(found, method)).parameters), many + 1)

    def test_errors(self):
        errors = importlib.import_module("dykelengths.errors")
        self.assertEqual(DykeError.__bases__, (ValueError,))
        for name in ERRORS:
            self.assertEqual(getattr(errors, name).__bases__, (DykeError,))


class Own(unittest.TestCase):
    def plain(self, thing):
        self.assertIn(type(thing), (type(None), bool, int, str, tuple, list, dict))
        if isinstance(thing, dict):
            self.plain(list(thing.items()))
        if isinstance(thing, (tuple, list)):
            for inner in thing:
                self.plain(inner)

    def test_every_function(self):
        calls = every_call()
        self.assertEqual({deed.__name__ for deed, _ in calls}, {
            name for names in INTERFACE.values() for name in names} - {"Keeper", "Desk"})
        for deed, handed in calls:
            before = shape(handed)
            told = deed(*handed)
            self.plain(told)
            self.assertEqual(shape(handed), before, deed.__name__)
            kept = deepcopy(told)
            spoil(told)
            self.assertEqual(shape(handed), before, deed.__name__)
            self.assertEqual(shape(deed(*handed)), shape(kept), deed.__name__)

    def test_what_is_done_to_things_afterwards(self):
        for deed, handed in every_call():
            told = deed(*handed)
            kept = deepcopy(told)
            spoil(handed)
            self.assertEqual(shape(told), shape(kept), deed.__name__)

    def test_a_keeper_and_a_desk(self):
        keeper, desk = Keeper(listed(LAYING)), Desk(roll_text((LAYING, ())))
        for row in ROWS:
            given = listed(row)
            told = keeper.write(given)
            self.plain(told)
            spoil(told)
            spoil(given)
            spoil(keeper.deeds())
            desk.say(deed_text(("write", row)))
        self.assertEqual(keeper.deeds(), [("write", row) for row in ROWS])
        self.assertEqual(keeper.roll(), roll_of(LAYING, ROWS))
        self.assertEqual(desk.say("roll"), roll_text(keeper.roll()))
        for deed in (keeper.roll, keeper.deeds):
            self.plain(deed())
        self.plain(keeper.then(3))


def answers(roll):
    """Much of what the program tells of a roll."""
    told = [words(roll), wrong_views(roll)]
    breaches = [row[1] for row, word in zip(roll[1], words(roll)) if row[0] == "breach" and word == "done"]
    told += [dues(roll, name) for name in breaches]
    for at in range(0, len(roll[1]) + 1, 5):
        told += [lands(roll, at), runs(roll, at), tended(roll, at), long(roll, at)]
        told += [stands(roll, at, ["ann", "bob"], 2)]
    return told


class Written(unittest.TestCase):
    def test_in_any_order_twice_late_or_taken_back(self):
        for seed in range(6):
            deeds = made_deeds(seed)
            rows = sorted(stood(deeds))
            plain = roll_of(SMALL, rows)
            kept = answers(plain)
            for turn in range(3):
                Random(seed + turn).shuffle(deeds)
                keeper, desk, state = Keeper(SMALL), Desk(roll_text((SMALL, ()))), start(SMALL)
                for word, what in deeds:
                    keeper.write(listed(what)) if word == "write" else keeper.back(what)
                    desk.say(deed_text((word, what)))
                    state = written(state, what) if word == "write" else taken_back(state, what)
                for roll in (keeper.roll(), roll_now(state), read_roll(desk.say("roll"))):
                    self.assertEqual(roll, plain)
                    self.assertEqual(answers(roll), kept)

    def test_row_by_row(self):
        for roll in made_rolls(3):
            rows = list(roll[1])
            Random(1).shuffle(rows)
            grown = (SMALL, ())
            for row in rows:
                grown = with_row(grown, row)
            self.assertEqual(grown, roll)
            self.assertEqual(roll_of(SMALL, rows + rows), roll)

    def test_a_log_as_texts(self):
        for seed in range(3):
            keeper = Keeper(SMALL)
            for deed in made_deeds(seed):
                word, what = read_deed(deed_text(deed))
                keeper.write(what) if word == "write" else keeper.back(what)
            self.assertEqual(keeper.deeds(), made_deeds(seed))


class Papers(unittest.TestCase):
    def test_chains_and_roads(self):
        for made in made_rolls(6):
            roll = read_roll(roll_text(made))
            for at in (0, 13, 40):
                for field, _, _, _ in roll[0]:
                    for inch in range(12):
                        try:
                            links = read_chain(chain_text(chain(roll, at, field, inch)))
                        except NoInch:
                            continue
                        self.assertTrue(shows_chain(made, at, field, inch, links[-1][2], links))
                for house in ("ann", "bob", "cid"):
                    self.assertTrue(is_road(made, at, house, road(roll, at, house)))

    def test_callings_and_lots(self):
        for seed in range(80):
            roll, at, names, spades, reach = made_question(seed)
            again = read_roll(roll_text(roll))
            self.assertEqual(again, roll)
            word, paper = calling(again, at, names, spades, reach)
            if word == "calls":
                paper = read_calling(calling_text(paper))
            else:
                paper = read_names(names_text(paper))
            self.assertEqual(shows_calling(roll, at, names, spades, reach, paper), word == "calls")
            self.assertEqual(shows_short(roll, at, names, spades, reach, paper), word == "short")
            told = least(again, at, names, spades, reach)
            if told[0] == "never":
                told = ("never", read_names(names_text(told[1])))
            else:
                lot = None if told[3] is None else read_names(names_text(told[3]))
                told = ("least", told[1], read_calling(calling_text(told[2])), lot)
            self.assertTrue(shows_least(roll, at, names, spades, reach, told))
            self.assertEqual(reached(again, at, names, reach), reached(roll, at, names, reach))

    def test_stands(self):
        for made in made_rolls(6):
            roll = read_roll(roll_text(made))
            for sight in (0, 1, 3, 10 ** 9):
                self.assertTrue(shows_stands(made, 40, ["ann", "cid"], sight, stands(roll, 40, ["ann", "cid"], sight)))

    def test_clashes(self):
        rolls = made_rolls(8)
        for one, other in zip(rolls, rolls[1:]):
            told = first_clash(read_roll(roll_text(one)), read_roll(roll_text(other)))
            if told is not None:
                papers = [None if links is None else read_chain(chain_text(links)) for links in told[3:]]
                told = told[:3] + tuple(papers)
            self.assertTrue(is_first_clash(one, other, told))

    def test_a_desks_papers(self):
        roll = made_rolls(1)[0]
        desk = Desk(roll_text((SMALL, ())))
        for row in roll[1]:
            desk.say(deed_text(("write", row)))
        for field, _, _, _ in SMALL:
            for inch in range(9):
                try:
                    links = read_chain(desk.say(f"chain {field} {inch} 9999"))
                except NoInch:
                    continue
                self.assertTrue(shows_chain(roll, 40, field, inch, links[-1][2], links))
                self.assertEqual(desk.say(f"whose {field} {inch} 9999").split(" ")[:2], list(links[-1][1:]))
