"""Inches along the whole dyke: places, runs, and how long lands are."""

from dykelengths.doings import bearing_acre, holder, moment_behind
from dykelengths.errors import NoInch, NoName
from dykelengths.shares import share, share_below


def first_places(moment):
    """For each field the place of its first inch, or where that would be."""
    told = {}
    ahead = 0
    for field, inches in moment.inches.items():
        told[field] = ahead
        ahead += inches
    return told


def place_in(moment, field, inch):
    """The place of the field's inch, or NoInch."""
    if not 0 <= inch < moment.inches[field]:
        raise NoInch("the field has no such inch")
    return first_places(moment)[field] + inch


def stretches(moment):
    """Tuples (field, low, high, land, house) along the dyke: the field's inches that each piece bears, none empty."""
    told = []
    for land, (house, pieces) in moment.holdings.items():
        for field, first, last in pieces:
            inches, acres = moment.inches[field], moment.acres[field]
            low, high = share_below(inches, acres, first), share_below(inches, acres, last)
            if low < high:
                told.append((field, low, high, land, house))
    return sorted(told, key=lambda stretch: (moment.ranks[stretch[0]], stretch[1]))


def drawn_together(rows):
    """Tuples (low, high, ..), one behind another, those that are alike behind high made one."""
    told = []
    for row in rows:
        if told and told[-1][2:] == row[2:]:
            told[-1] = (told[-1][0],) + row[1:]
        else:
            told.append(row)
    return told


def runs_in(moment):
    """The runs of the dyke: tuples (low, high, land, house)."""
    first = first_places(moment)
    placed = [
        (first[field] + low, first[field] + high, land, house) for field, low, high, land, house in stretches(moment)
    ]
    return drawn_together(placed)


def long(roll, at):
    """How many inches the whole dyke has."""
    return sum(moment_behind(roll, at).inches.values())


def place_of(roll, at, field, inch):
    """The place of the field's inch, or NoInch."""
    return place_in(moment_behind(roll, at), field, inch)


def at_place(roll, at, place):
    """The tuple (field, inch) of a place, or NoInch."""
    inch = place
    for field, inches in moment_behind(roll, at).inches.items():
        if 0 <= inch < inches:
            return (field, inch)
        inch -= inches
    raise NoInch("the dyke has no such place")


def bearer(roll, at, field, inch):
    """The tuple (land, house) of who bears the field's inch, or NoInch."""
    moment = moment_behind(roll, at)
    return holder(moment, field, bearing_acre(moment, field, inch))


def runs(roll, at):
    """The list of tuples (low, high, land, house) of all places, as long as can be."""
    return runs_in(moment_behind(roll, at))


def length_of(roll, at, land):
    """How many inches the land bears, or NoName."""
    moment = moment_behind(roll, at)
    # What is no text may be no key at all, so it is not looked up.
    if not isinstance(land, str) or land not in moment.holdings:
        raise NoName("no land is called so")
    pieces = moment.holdings[land][1]
    return sum([share(moment.inches[field], moment.acres[field], low, high) for field, low, high in pieces])
