"""What a deed changes between two rolls of one laying: words of rows, and houses of acres."""

from dykelengths.doings import moment_behind
from dykelengths.feet import drawn_together
from dykelengths.lands import words


def words_by_names(roll):
    """A dict from the names of the roll's rows to their words."""
    return dict(zip([row[1] for row in roll[1]], words(roll)))


def turned(ahead, behind):
    """The rising list of tuples (name, ahead, behind) of rows whose word is another one, None where one isn't there."""
    ours, theirs = words_by_names(ahead), words_by_names(behind)
    names = sorted(set(list(ours) + list(theirs)))
    return [(name, ours.get(name), theirs.get(name)) for name in names if ours.get(name) != theirs.get(name)]


def house_starts(moment):
    """For each field the acres from which on they are a house's."""
    starts = {field: {} for field in moment.acres}
    for house, pieces in moment.holdings.values():
        for field, low, high in pieces:
            starts[field][low] = house
    return starts


def both_houses(starts, others, acres):
    """Tuples (low, high, ahead, behind) of all acres of a field, by who has them in both, as long as can be."""
    cuts = sorted(set(list(starts) + list(others))) + [acres]
    told = []
    ahead = behind = None
    for low, high in zip(cuts, cuts[1:]):
        ahead, behind = starts.get(low, ahead), others.get(low, behind)
        told.append((low, high, ahead, behind))
    return drawn_together(told)


def altered(ahead, behind):
    """The list along the dyke of tuples (field, low, high, ahead, behind) of acres that have another house behind."""
    before, after = moment_behind(ahead, len(ahead[1])), moment_behind(behind, len(behind[1]))
    ours, theirs = house_starts(before), house_starts(after)
    told = []
    for field, acres in before.acres.items():
        for low, high, house, other in both_houses(ours[field], theirs[field], acres):
            if house != other:
                told.append((field, low, high, house, other))
    return told
