"""What several tests need: layings, rows of each kind, and things of every kind."""

from copy import deepcopy
from random import Random

from dykelengths.rolls import roll_of
from dykelengths.rows import row_of

LAYING = (("east", "ann", 30, 600), ("mid", "bob", 7, 0), ("west", "ann", 20, 100))

PART = ("part", "pa", 5, "east", (("north", "ann", 10), ("south", "cid", 20)))
JOIN = ("join", "jo", 5, ("east", "west"), "big")
FORFEIT = ("forfeit", "fo", 5, "east", "bob")
MEASURE = ("measure", "me", 5, "east", 700)
MEND = ("mend", "mend", 5, "ann", "bob")
ALONE = ("alone", "al", 5, "ann")
BREACH = ("breach", "br", 5, "east", 3, 1000, 20)
VIEW = ("view", "vi", 5, "west", 3, "ann")
ROWS = (PART, JOIN, FORFEIT, MEASURE, MEND, ALONE, BREACH, VIEW)


def nested(kind, deep):
    """A list, tuple or dict with so many within one another."""
    thing = None
    for _ in range(deep):
        if kind is dict:
            thing = {"in": thing}
        else:
            thing = kind([thing])
    return thing


def things():
    """Things of every kind, none of which is a name, a row, a laying or a list of rows."""
    return [
        None, True, False, 0, 1, -1, 5, 10 ** 59, -(10 ** 59),
        "", "A", "part ", "two words", "line\nend", "toolonganame", "x" * 20000, "~",
        (), [], {}, (1,), [1], [None], (True, False), [[]], ((),), [()],
        {"part": 1}, {1: "part"}, {(): None}, [{}], ({"a": []},),
        nested(list, 60), nested(tuple, 60), nested(dict, 60), [0] * 2000, ("a",) * 2000,
    ]


def put(row, place, thing):
    """The tuple with the thing at this place."""
    return row[:place] + (thing,) + row[place + 1:]


def listed(thing):
    """The same with lists in the place of all tuples."""
    if isinstance(thing, tuple):
        return [listed(inner) for inner in thing]
    return thing


def shape(thing):
    """Tells a thing apart from those that Python calls equal: 1 and True, say."""
    if isinstance(thing, (list, tuple)):
        return (type(thing).__name__, [shape(inner) for inner in thing])
    if isinstance(thing, dict):
        return ("dict", [(shape(key), shape(value)) for key, value in thing.items()])
    return (type(thing).__name__, thing)


def untouched(case, deed, *arguments):
    """What the deed tells; the case fails where it changed one of the arguments."""
    before = deepcopy(arguments)
    told = deed(*arguments)
    case.assertEqual(shape(arguments), shape(before))
    return told


def letters(number):
    """A name for each number from 0 on, in their order, below 26 ** 3."""
    signs = "abcdefghijklmnopqrstuvwxyz"
    return signs[number // 676] + signs[number // 26 % 26] + signs[number % 26]


def alones(many):
    """So many unlike rows that any laying may have, in their order."""
    return tuple(("alone", letters(number), 3, "ann") for number in range(many))


class Acres:
    """The same dyke kept acre by acre and step by step, to hold the program's answers against."""

    def __init__(self, laying):
        self.acres = [(field, acre) for field, _, many, _ in laying for acre in range(many)]
        self.land = {acre: acre[0] for acre in self.acres}
        self.house = {field: house for field, house, _, _ in laying}
        self.inches = {field: inches for field, _, _, inches in laying}
        self.mender = {}
        self.story = {acre: [(None, acre[0], self.house[acre[0]])] for acre in self.acres}

    def held(self, land):
        return [acre for acre in self.acres if self.land[acre] == land]

    def reasons(self, row):
        """All that keeps the row from being done, in the order in which it is told."""
        kind, rest = row[0], row[3:]
        stands = set(self.house)
        if kind == "part":
            told = {part[0] for part in rest[1]}
            return [("land", rest[0] not in stands),
                    ("acres", sum(part[2] for part in rest[1]) != len(self.held(rest[0]))),
                    ("name", bool(told & (stands - {rest[0]})))]
        if kind == "join":
            return [("land", not set(rest[0]) <= stands),
                    ("houses", len({self.house.get(land) for land in rest[0]}) > 1),
                    ("name", rest[1] in stands - set(rest[0]))]
        if kind == "forfeit":
            return [("land", rest[0] not in stands), ("same", self.house.get(rest[0]) == rest[1])]
        if kind == "mend":
            return [("ring", self.leads_to(rest[1], rest[0]))]
        if kind == "alone":
            return [("none", rest[0] not in self.mender)]
        if kind in ("breach", "view"):
            return [("inch", rest[1] not in range(self.inches[rest[0]]))]
        return []

    def leads_to(self, house, goal):
        if house == goal:
            return True
        return house in self.mender and self.leads_to(self.mender[house], goal)

    def give(self, name, acres, land, house):
        for acre in acres:
            self.land[acre] = land
            self.story[acre].append((name, land, house))

    def do(self, row):
        """Tells the row's word, and does it where it is done."""
        for word, holds in self.reasons(row):
            if holds:
                return word
        kind, name, rest = row[0], row[1], row[3:]
        if kind == "part":
            left = self.held(rest[0])
            del self.house[rest[0]]
            for land, house, many in rest[1]:
                self.house[land] = house
                self.give(name, left[:many], land, house)
                left = left[many:]
        if kind == "join":
            house = self.house[rest[0][0]]
            taken = [acre for land in rest[0] for acre in self.held(land)]
            for land in rest[0]:
                del self.house[land]
            self.house[rest[1]] = house
            self.give(name, taken, rest[1], house)
        if kind == "forfeit":
            self.house[rest[0]] = rest[1]
            self.give(name, self.held(rest[0]), rest[0], rest[1])
        if kind == "measure":
            self.inches[rest[0]] = rest[1]
        if kind == "mend":
            self.mender[rest[0]] = rest[1]
        if kind == "alone":
            del self.mender[rest[0]]
        return "done"

    def lands(self):
        told = []
        for land in sorted(self.house):
            pieces = []
            for field, acre in self.held(land):
                if pieces and pieces[-1][0] == field and pieces[-1][2] == acre:
                    pieces[-1] = (field, pieces[-1][1], acre + 1)
                else:
                    pieces.append((field, acre, acre + 1))
            told.append((land, self.house[land], tuple(pieces)))
        return told

    def bearer(self, field, inch):
        """The acre that bears the inch, looked for among all of them; None where it isn't there."""
        many = len([acre for acre in self.acres if acre[0] == field])
        inches = self.inches[field]
        if inch not in range(inches):
            return None
        return [acre for acre in range(many) if acre * inches <= inch * many < (acre + 1) * inches][0]

    def walk(self):
        """Tuples (field, inch, land, house) of all inches, one behind another along the dyke."""
        told = []
        for field, inches in self.inches.items():
            for inch in range(inches):
                land = self.land[field, self.bearer(field, inch)]
                told.append((field, inch, land, self.house[land]))
        return told

    def road(self, house):
        return [house] + (self.road(self.mender[house]) if house in self.mender else [])

    def tenders(self):
        """Who tends each place."""
        return [self.road(house)[-1] for _, _, _, house in self.walk()]


def moments(roll):
    """Tuples (at, dyke) of every moment of the roll; the dyke is good until the next one is asked for."""
    dyke = Acres(roll[0])
    yield 0, dyke
    for at, row in enumerate(roll[1]):
        dyke.do(row)
        yield at + 1, dyke


def in_runs(things):
    """Tuples (low, high, thing) of things that are alike one behind another, each as long as can be."""
    told = []
    for place, thing in enumerate(things):
        if told and told[-1][2] == thing:
            told[-1] = (told[-1][0], place + 1, thing)
        else:
            told.append((place, place + 1, thing))
    return told


HOUSES = ("ann", "bob", "cid")
SMALL = (("east", "ann", 5, 7), ("mid", "bob", 1, 0), ("west", "ann", 4, 9), ("yonder", "cid", 3, 2))


def made_part(chance, dyke):
    """A land and parts, most often such as it can be parted into."""
    lands = sorted(dyke.house)
    land = chance.choice(lands + ["new"])
    pool = set("pqrstuvwxyz") - set(lands) | {land, "far", "gone"}
    if not chance.randrange(4):
        pool |= set(lands)
    names = chance.sample(sorted(pool), chance.choice((2, 2, 3)))
    many = len(dyke.held(land)) + chance.choice((0, 0, 0, 0, 1))
    first = chance.randrange(1, max(2, many - len(names) + 2))
    acres = [first] + [1] * (len(names) - 2)
    acres.append(max(1, many - sum(acres)))
    return [land, [[name, chance.choice(HOUSES), some] for name, some in zip(names, acres)]]


def made_join(chance, dyke):
    lands = sorted(dyke.house)
    house = chance.choice(HOUSES)
    held = [land for land in lands if dyke.house[land] == house]
    if len(held) < 2 or not chance.randrange(4):
        held = lands + ["new"]
    joined = chance.sample(held, chance.randrange(2, min(3, len(held)) + 1))
    return [joined, chance.choice(joined + lands + ["j", "k", "l"])]


def made_rest(chance, kind, dyke):
    """What stands behind the day in a row of this kind."""
    field = chance.choice(sorted(dyke.inches))
    if kind == "part":
        return made_part(chance, dyke)
    if kind == "join":
        return made_join(chance, dyke)
    if kind == "forfeit":
        return [chance.choice(sorted(dyke.house) + ["new"]), chance.choice(HOUSES)]
    if kind == "measure":
        return [field, chance.randrange(12)]
    if kind == "mend":
        return chance.sample(HOUSES, 2)
    if kind == "alone":
        return [chance.choice(HOUSES)]
    if kind == "breach":
        return [field, chance.randrange(9), 10, 1]
    return [field, chance.randrange(9), chance.choice(HOUSES)]


def made_rows(seed):
    """Forty rows of SMALL, no two of one day, the same for the same seed; many of them done."""
    chance = Random(seed)
    dyke = Acres(SMALL)
    rows = []
    for day in range(40):
        kind = chance.choice(("part", "part", "join", "join", "forfeit", "measure", "mend", "alone", "breach", "view"))
        row = row_of([kind, letters(chance.randrange(400) * 40 + day), day] + made_rest(chance, kind, dyke))
        dyke.do(row)
        rows.append(row)
    return rows


def made_rolls(many):
    """So many rolls of SMALL; in every third one several rows share a day, so that many come out of turn."""
    told = []
    for seed in range(many):
        rows = made_rows(seed)
        if seed % 3 == 2:
            rows = [put(row, 2, row[2] // 4) for row in rows]
        told.append(roll_of(SMALL, rows))
    return told


def made_deeds(seed):
    """Deeds of a log over SMALL, all of which can be done: some twice, some forms of one name, names taken back."""
    chance = Random(seed)
    rows = made_rows(seed)
    if seed % 3 == 2:
        rows = [put(row, 2, row[2] // 4) for row in rows]
    twins = chance.sample(rows, 6)
    forms = rows + [put(row, 2, row[2] + 100) for row in twins] + [put(row, 2, row[2] + 200) for row in twins[:2]]
    told = [("write", row) for row in forms]
    told += [("back", row[1]) for row in chance.sample(rows, 6)] + [("back", "nobody")]
    told += chance.sample(told, 12)
    chance.shuffle(told)
    return told


def stood(deeds):
    """The rows that stand behind such deeds, looked for name by name."""
    rows = [row for word, row in deeds if word == "write"]
    backs = [name for word, name in deeds if word == "back"]
    forms = {name: {row for row in rows if row[1] == name} for _, name, *_ in rows}
    return {row for name, some in forms.items() for row in some if len(some) == 1 and name not in backs}


def acre_by_acre(roll):
    """The words of the roll's rows, and who has each acre behind them."""
    dyke = Acres(roll[0])
    words = {row[1]: dyke.do(row) for row in roll[1]}
    return words, [(acre, dyke.house[dyke.land[acre]]) for acre in dyke.acres]


def changes(ahead, behind):
    """What turned and altered tell, looked for name by name and acre by acre."""
    (words, houses), (others, heirs) = acre_by_acre(ahead), acre_by_acre(behind)
    rows = [(name, words.get(name), others.get(name)) for name in sorted(set(words) | set(others))]
    acres = []
    for ((field, acre), house), (_, heir) in zip(houses, heirs):
        if acres and (acres[-1][0],) + acres[-1][2:] == (field, acre, house, heir):
            acres[-1] = (field, acres[-1][1], acre + 1, house, heir)
        elif house != heir:
            acres.append((field, acre, acre + 1, house, heir))
    return [row for row in rows if row[1] != row[2]], acres


def made_question(seed):
    """A roll, how many rows it has, names of breaches, spades and a reach; the same for the same seed."""
    chance = Random(seed)
    houses = ["ann", "bob", "cid", "dan", "eve", "fay", "gil"]
    laying = [(field, chance.choice(houses), 3, chance.randrange(1, 6)) for field in "abcdefgh"[:chance.randrange(1, 9)]]
    rows = [["mend", "m" + letters(day), day] + chance.sample(houses, 2) for day in range(chance.randrange(3))]
    names = chance.sample([letters(number) for number in range(30)], chance.randrange(13))
    most = chance.choice((1, 3, 6, 10 ** 6))
    for name in names:
        field, _, _, inches = chance.choice(laying)
        rows.append(["breach", name, 5, field, chance.randrange(inches), 0, chance.randrange(most + 1)])
    spades = {house: chance.randrange(4 * most) for house in houses + ["nobody"] if chance.randrange(5)}
    return roll_of(laying, rows), len(rows), names, spades, chance.choice((0, 1, 2, 3, 5, 40))


def lots(names):
    """All rising lists of some of the names, that of none among them."""
    told = [[]]
    for name in sorted(names):
        told += [lot + [name] for lot in told]
    return told


def cells(wanted, pairs):
    """All rising lists of tuples (house, breach, many) over the pairs, many up to what the breach wants."""
    told = [[]]
    for house, breach in pairs:
        told = [row + ([(house, breach, many)] if many else []) for row in told for many in range(wanted[breach] + 1)]
    return told


def meets(wanted, spades, row):
    """Whether such a list gives each breach what it wants, and takes from no house more than it has."""
    got = {breach: sum(many for _, other, many in row if other == breach) for breach in wanted}
    gave = [sum(many for other, _, many in row if other == house) <= spades.get(house, 0) for house, _, _ in row]
    return got == wanted and all(gave)


def gap(wanted, pairs, spades, lot):
    """How many spades the lot lacks, below 0 where it lacks none."""
    houses = {house for house, breach in pairs if breach in lot}
    return sum(wanted[breach] for breach in lot) - sum(spades.get(house, 0) for house in houses)
