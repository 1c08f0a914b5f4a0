"""What rows do, one behind another, to lands, lengths and menders."""

from dykelengths.errors import NoInch


class Moment:
    """What holds behind some rows of a laying: a laying alone, until rows are carried out on it."""

    def __init__(self, laying):
        self.ranks = {}
        self.holdings = {}
        self.acres = {}
        self.inches = {}
        self.menders = {}
        for field, house, acres, inches in laying:
            self.ranks[field] = len(self.ranks)
            self.holdings[field] = (house, ((field, 0, acres),))
            self.acres[field] = acres
            self.inches[field] = inches


def acres_in(pieces):
    return sum([high - low for field, low, high in pieces])


def cut(pieces, low, high):
    """The pieces of a land's acres from number low to below high, as the land counts them."""
    told = []
    ahead = 0
    for field, first, last in pieces:
        start = max(first, first + low - ahead)
        end = min(last, first + high - ahead)
        if start < end:
            told.append((field, start, end))
        ahead += last - first
    return tuple(told)


def in_one(ranks, pieces):
    """Pieces in order along the dyke, those that touch in a field made one."""
    told = []
    for field, low, high in sorted(pieces, key=lambda piece: (ranks[piece[0]], piece[1])):
        if told and told[-1][0] == field and told[-1][2] == low:
            told[-1] = (field, told[-1][1], high)
        else:
            told.append((field, low, high))
    return tuple(told)


def road_from(menders, house):
    """The house, its mender, that one's mender, and so on."""
    road = [house]
    while road[-1] in menders:
        road.append(menders[road[-1]])
    return road


def holder(moment, field, acre):
    """The land and house that hold an acre of the field."""
    held = [
        (land, house)
        for land, (house, pieces) in moment.holdings.items()
        for place, low, high in pieces
        if place == field and low <= acre < high
    ]
    return held[0]


def bearing_acre(moment, field, inch):
    """The field's acre that bears the inch, or NoInch."""
    inches = moment.inches[field]
    if not 0 <= inch < inches:
        raise NoInch("the field has no such inch")
    return inch * moment.acres[field] // inches


def lands_named(row):
    """The lands whose acres the row moves, where it is done."""
    if row[0] == "join":
        return row[3]
    if row[0] in ("part", "forfeit"):
        return (row[3],)
    return ()


def do_part(moment, row):
    parted, parts = row[3], row[4]
    if parted not in moment.holdings:
        return "land"
    pieces = moment.holdings[parted][1]
    if sum([part[2] for part in parts]) != acres_in(pieces):
        return "acres"
    if any([part[0] != parted and part[0] in moment.holdings for part in parts]):
        return "name"
    moment.holdings.pop(parted)
    low = 0
    for land, house, acres in parts:
        moment.holdings[land] = (house, cut(pieces, low, low + acres))
        low += acres
    return "done"


def do_join(moment, row):
    joined, land = row[3], row[4]
    if not all([name in moment.holdings for name in joined]):
        return "land"
    house = moment.holdings[joined[0]][0]
    if any([moment.holdings[name][0] != house for name in joined]):
        return "houses"
    if land not in joined and land in moment.holdings:
        return "name"
    pieces = []
    for name in joined:
        pieces.extend(moment.holdings.pop(name)[1])
    moment.holdings[land] = (house, in_one(moment.ranks, pieces))
    return "done"


def do_forfeit(moment, row):
    land, house = row[3], row[4]
    if land not in moment.holdings:
        return "land"
    holding, pieces = moment.holdings[land]
    if holding == house:
        return "same"
    moment.holdings[land] = (house, pieces)
    return "done"


def do_measure(moment, row):
    moment.inches[row[3]] = row[4]
    return "done"


def do_mend(moment, row):
    house, other = row[3], row[4]
    if house in road_from(moment.menders, other):
        return "ring"
    moment.menders[house] = other
    return "done"


def do_alone(moment, row):
    if row[3] not in moment.menders:
        return "none"
    moment.menders.pop(row[3])
    return "done"


def do_look(moment, row):
    """Breaches and views change nothing; they only need their inch."""
    return "done" if row[4] < moment.inches[row[3]] else "inch"


DEEDS = {
    "part": do_part,
    "join": do_join,
    "forfeit": do_forfeit,
    "measure": do_measure,
    "mend": do_mend,
    "alone": do_alone,
    "breach": do_look,
    "view": do_look,
}


def carry_out(moment, row):
    """Does the row where it can be done, and tells its word."""
    deed = DEEDS[row[0]]
    return deed(moment, row)


def moment_behind(roll, at):
    """The moment behind the first so many rows."""
    laying, rows = roll
    moment = Moment(laying)
    for row in rows[:at]:
        carry_out(moment, row)
    return moment
