"""Dues: what each house pays for a breach, by acres."""

from dykelengths.doings import carry_out, moment_behind
from dykelengths.errors import NoBreach
from dykelengths.rolls import row_called
from dykelengths.shares import share


def first_acres(moment):
    """For each field the number of its first acre, counted along the whole dyke."""
    told = {}
    ahead = 0
    for field, acres in moment.acres.items():
        told[field] = ahead
        ahead += acres
    return told


def dues_in(moment, pence):
    """A dict from the houses that hold land to what they pay of the pence."""
    first = first_acres(moment)
    every = sum(moment.acres.values())
    told = {}
    for house, pieces in moment.holdings.values():
        paid = [share(pence, every, first[field] + low, first[field] + high) for field, low, high in pieces]
        told[house] = told.get(house, 0) + sum(paid)
    return told


def dues(roll, name):
    """The rising list of tuples (house, pence) of a breach; NoName or NoBreach where it is none."""
    row = row_called(roll, name)
    moment = moment_behind(roll, roll[1].index(row))
    if row[0] != "breach" or carry_out(moment, row) != "done":
        raise NoBreach("this row is no breach, or an idle one")
    return sorted(dues_in(moment, row[5]).items())


def due(roll, name, house):
    """What the house pays of a breach; refused as dues are."""
    return sum([pence for payer, pence in dues(roll, name) if payer == house])
