"""Which rows are done, which lands there are, and how long fields are."""

from dykelengths.doings import Moment, carry_out, moment_behind
from dykelengths.errors import NoInch


def words(roll):
    """The word of each row, in their order: done, or why it is idle."""
    laying, rows = roll
    moment = Moment(laying)
    return [carry_out(moment, row) for row in rows]


def lands(roll, at):
    """The rising list of tuples (land, house, pieces)."""
    moment = moment_behind(roll, at)
    return sorted([(land, house, pieces) for land, (house, pieces) in moment.holdings.items()])


def inches_of(roll, at, field):
    """How many inches the field has."""
    return moment_behind(roll, at).inches[field]


def bearing_acre(roll, at, field, inch):
    """The field's acre that bears the inch, or NoInch."""
    inches = inches_of(roll, at, field)
    if not 0 <= inch < inches:
        raise NoInch("the field has no such inch")
    acres = {place[0]: place[2] for place in roll[0]}
    return inch * acres[field] // inches
