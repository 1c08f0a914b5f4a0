"""Menders: who mends for whom, and who tends each place."""

from dykelengths.doings import carry_out, moment_behind, road_from
from dykelengths.errors import NoMend
from dykelengths.feet import drawn_together, runs_in
from dykelengths.rolls import row_called


def tended_in(moment):
    """Tuples (low, high, house) of all places by who tends them, as long as can be."""
    return drawn_together(
        [(low, high, road_from(moment.menders, house)[-1]) for low, high, land, house in runs_in(moment)]
    )


def road(roll, at, house):
    """The list of the house, its mender, that one's mender, and so on."""
    return road_from(moment_behind(roll, at).menders, house)


def mends(roll, at, house):
    """Who mends what the house must mend."""
    return road(roll, at, house)[-1]


def is_road(roll, at, house, thing):
    """Whether the thing is the house's road."""
    return thing == road(roll, at, house)


def ring(roll, name):
    """The ring that an idle mend would close, None of a done one; NoName or NoMend where it is none."""
    row = row_called(roll, name)
    if row[0] != "mend":
        raise NoMend("this row is no mend")
    house, other = row[3], row[4]
    moment = moment_behind(roll, roll[1].index(row))
    way = road_from(moment.menders, other)
    if carry_out(moment, row) == "done":
        return None
    return [house] + way[:way.index(house) + 1]


def tended(roll, at):
    """The list of tuples (low, high, house) of all places by who tends them, as long as can be."""
    return tended_in(moment_behind(roll, at))
