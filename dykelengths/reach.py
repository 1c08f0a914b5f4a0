"""Reach: which houses are near enough to which breaches, and how many spades these need."""

from dykelengths.doings import Moment, carry_out
from dykelengths.errors import NoBreach, NoName
from dykelengths.feet import place_in
from dykelengths.menders import tended_in


def breach_row(known, name):
    """The breach of this name among the rows and words so far; NoName or NoBreach where it is none."""
    if name not in known:
        raise NoName("no row so far is called so")
    row, word = known[name]
    if row[0] != "breach" or word != "done":
        raise NoBreach("this row is no breach, or an idle one")
    return row


def asked_of(roll, at, names):
    """The moment, and a dict from names to tuples (place, spades); refused by the first name that calls for it."""
    laying, rows = roll
    moment = Moment(laying)
    known = {}
    for row in rows[:at]:
        known[row[1]] = (row, carry_out(moment, row))
    told = {}
    for name in names:
        row = breach_row(known, name)
        told[name] = (place_in(moment, row[3], row[4]), row[6])
    return (moment, told)


def question(roll, at, names, reach):
    """What a calling must meet: a dict from breaches to needs, and the rising list of tuples (house, breach)."""
    moment, asked = asked_of(roll, at, names)
    tenders = tended_in(moment)
    pairs = [
        (house, name)
        for name, (place, spades) in asked.items()
        for low, high, house in tenders
        if low <= place + reach and place - reach < high
    ]
    return ({name: spades for name, (place, spades) in asked.items()}, sorted(set(pairs)))


def reached(roll, at, names, reach):
    """The rising list of tuples (house, breach), of the houses that reach the breaches."""
    return question(roll, at, names, reach)[1]


def needs(roll, at, names):
    """A dict from the names to the spades that their breaches need."""
    return {name: spades for name, (place, spades) in asked_of(roll, at, names)[1].items()}
