"""Which rows are done, which lands there are, and how long fields are."""

from dykelengths.doings import Moment, carry_out, moment_behind


def words(roll):
    """The word of each row, in their order: done, or why it is idle."""
    laying, rows = roll
    moment = Moment(laying)
    return [carry_out(moment, row) for row in rows]


def lands(roll, at):
    """The rising list of tuples (land, house, pieces)."""
    moment = moment_behind(roll, at)
    return sorted([(land, house, pieces) for land, (house, pieces) in moment.holdings.items()])


def inches_of(roll, at, field):
    """How many inches the field has."""
    return moment_behind(roll, at).inches[field]
