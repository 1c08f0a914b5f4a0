"""Chains: how an acre or an inch came to its land and house, from the first laying on."""

from dykelengths.doings import Moment, bearing_acre, carry_out, holder, lands_named, moment_behind
from dykelengths.errors import NoInch


def chain_of_acre(roll, at, field, acre):
    """The list of tuples (row, land, house) of an acre of the field."""
    laying, rows = roll
    moment = Moment(laying)
    land, house = holder(moment, field, acre)
    links = [(None, land, house)]
    for row in rows[:at]:
        touched = land in lands_named(row)
        if carry_out(moment, row) == "done" and touched:
            land, house = holder(moment, field, acre)
            links.append((row[1], land, house))
    return links


def chain(roll, at, field, inch):
    """The chain of the acre that bears the inch, or NoInch."""
    return chain_of_acre(roll, at, field, bearing_acre(moment_behind(roll, at), field, inch))


def shows_chain(roll, at, field, inch, house, thing):
    """Whether the thing is the inch's chain and ends with the house."""
    try:
        links = chain(roll, at, field, inch)
    except NoInch:
        return False
    return thing == links and links[-1][2] == house
