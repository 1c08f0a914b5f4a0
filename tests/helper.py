"""What several tests need: layings, rows of each kind, and things of every kind."""

from copy import deepcopy

LAYING = (("east", "ann", 30, 600), ("mid", "bob", 7, 0), ("west", "ann", 20, 100))

PART = ("part", "pa", 5, "east", (("north", "ann", 10), ("south", "cid", 20)))
JOIN = ("join", "jo", 5, ("east", "west"), "big")
FORFEIT = ("forfeit", "fo", 5, "east", "bob")
MEASURE = ("measure", "me", 5, "east", 700)
MEND = ("mend", "mend", 5, "ann", "bob")
ALONE = ("alone", "al", 5, "ann")
BREACH = ("breach", "br", 5, "east", 3, 1000, 20)
VIEW = ("view", "vi", 5, "west", 3, "ann")
ROWS = (PART, JOIN, FORFEIT, MEASURE, MEND, ALONE, BREACH, VIEW)


def nested(kind, deep):
    """A list, tuple or dict with so many within one another."""
    thing = None
    for _ in range(deep):
        if kind is dict:
            thing = {"in": thing}
        else:
            thing = kind([thing])
    return thing


def things():
    """Things of every kind, none of which is a name, a row, a laying or a list of rows."""
    return [
        None, True, False, 0, 1, -1, 5, 10 ** 59, -(10 ** 59),
        "", "A", "part ", "two words", "line\nend", "toolonganame", "x" * 20000, "~",
        (), [], {}, (1,), [1], [None], (True, False), [[]], ((),), [()],
        {"part": 1}, {1: "part"}, {(): None}, [{}], ({"a": []},),
        nested(list, 60), nested(tuple, 60), nested(dict, 60), [0] * 2000, ("a",) * 2000,
    ]


def put(row, place, thing):
    """The tuple with the thing at this place."""
    return row[:place] + (thing,) + row[place + 1:]


def listed(thing):
    """The same with lists in the place of all tuples."""
    if isinstance(thing, tuple):
        return [listed(inner) for inner in thing]
    return thing


def shape(thing):
    """Tells a thing apart from those that Python calls equal: 1 and True, say."""
    if isinstance(thing, (list, tuple)):
        return (type(thing).__name__, [shape(inner) for inner in thing])
    if isinstance(thing, dict):
        return ("dict", [(shape(key), shape(value)) for key, value in thing.items()])
    return (type(thing).__name__, thing)


def untouched(case, deed, *arguments):
    """What the deed tells; the case fails where it changed one of the arguments."""
    before = deepcopy(arguments)
    told = deed(*arguments)
    case.assertEqual(shape(arguments), shape(before))
    return told


def letters(number):
    """A name for each number from 0 on, in their order, below 26 ** 3."""
    signs = "abcdefghijklmnopqrstuvwxyz"
    return signs[number // 676] + signs[number // 26 % 26] + signs[number % 26]


def alones(many):
    """So many unlike rows that any laying may have, in their order."""
    return tuple(("alone", letters(number), 3, "ann") for number in range(many))
