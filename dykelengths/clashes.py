"""Clashes: the first day and inch on which two rolls of one laying tell unlike houses."""

from dykelengths.chains import chain
from dykelengths.doings import Moment, carry_out
from dykelengths.errors import NoInch
from dykelengths.feet import stretches
from dykelengths.rolls import up_to
from dykelengths.rows import is_whole


def house_starts(moment):
    """For each field the inches from which on they are a house's, None behind the last one."""
    starts = {field: {} for field in moment.inches}
    for field, low, high, land, house in stretches(moment):
        starts[field][low] = house
    for field, inches in moment.inches.items():
        starts[field][inches] = None
    return starts


def first_unlike(starts, others):
    """The first inch of a field that is there in one of both alone, or is unlike houses'; None where there is none."""
    house = other = None
    for inch in sorted(set(list(starts) + list(others))):
        house, other = starts.get(inch, house), others.get(inch, other)
        if house != other:
            return inch
    return None


def first_spot(moment, another):
    """The first field along the dyke, and in it the first inch, at which both clash; None where they don't."""
    ours, theirs = house_starts(moment), house_starts(another)
    for field in ours:
        inch = first_unlike(ours[field], theirs[field])
        if inch is not None:
            return (field, inch)
    return None


def carry_day(moment, rows, day):
    """Does all rows of the day."""
    for row in rows:
        if row[2] == day:
            carry_out(moment, row)


def chain_there(roll, at, field, inch):
    """The chain of the inch, None where it isn't there."""
    try:
        return chain(roll, at, field, inch)
    except NoInch:
        return None


def first_clash(one, other):
    """The tuple (day, field, inch, one, other) of the first clash, with both chains; None where there is none."""
    ours, theirs = Moment(one[0]), Moment(other[0])
    for day in sorted(set([row[2] for row in one[1] + other[1]])):
        carry_day(ours, one[1], day)
        carry_day(theirs, other[1], day)
        spot = first_spot(ours, theirs)
        if spot is not None:
            field, inch = spot
            chains = [chain_there(roll, up_to(roll, day), field, inch) for roll in (one, other)]
            return (day, field, inch, chains[0], chains[1])
    return None


def is_first_clash(one, other, thing):
    """Whether the thing is what first_clash tells."""
    told = first_clash(one, other)
    if told is None:
        return thing is None
    if thing != told:
        return False
    # Python calls True and 1 equal; here a truth is no number.
    return is_whole(thing[0], told[0], told[0]) and is_whole(thing[2], told[2], told[2])
