"""Layings and rows: which things are such, and the order in which rows go."""

from dykelengths.errors import NoRow
from dykelengths.names import is_name

LAST_DAY = 9999
MOST_FIELDS = 8
FEWEST_LANDS = 2
MOST_LANDS = 6
MOST_FIELD_ACRES = 10 ** 6
MOST_PART_ACRES = 10 ** 7
MOST_INCHES = 10 ** 7
MOST_PENCE = 10 ** 9
MOST_SPADES = 10 ** 6

# A row holds its parts, and these hold names and numbers: three tuples within one another.
ROW_DEPTH = 3

RANKS = {"measure": 0, "part": 1, "join": 1, "forfeit": 1, "mend": 2, "alone": 2, "breach": 3, "view": 3}


def is_number(thing):
    """Whether it is a whole number; a truth is none."""
    return isinstance(thing, int) and not isinstance(thing, bool)


def is_whole(thing, least, most):
    """Whether it is a whole number from least to most."""
    return is_number(thing) and least <= thing <= most


def is_rising(things):
    return list(things) == sorted(set(things))


def is_field(thing):
    """Whether it is one of a laying's tuples (field, house, acres, inches)."""
    if not isinstance(thing, tuple) or len(thing) != 4:
        return False
    field, house, acres, inches = thing
    if not is_name(field) or not is_name(house):
        return False
    return is_whole(acres, 1, MOST_FIELD_ACRES) and is_whole(inches, 0, MOST_INCHES)


def is_laying(thing):
    """Whether it is a laying, just as it stands."""
    if not isinstance(thing, tuple) or not 1 <= len(thing) <= MOST_FIELDS:
        return False
    if not all([is_field(field) for field in thing]):
        return False
    return len(set([field[0] for field in thing])) == len(thing)


def is_part(thing):
    """Whether it is one of a parting's tuples (land, house, acres)."""
    if not isinstance(thing, tuple) or len(thing) != 3:
        return False
    land, house, acres = thing
    return is_name(land) and is_name(house) and is_whole(acres, 1, MOST_PART_ACRES)


def all_parts(thing):
    return isinstance(thing, tuple) and all([is_part(part) for part in thing])


def all_names(thing):
    return isinstance(thing, tuple) and all([is_name(name) for name in thing])


def are_parts(thing):
    if not all_parts(thing) or not FEWEST_LANDS <= len(thing) <= MOST_LANDS:
        return False
    return is_rising([part[0] for part in thing])


def are_lands(thing):
    return all_names(thing) and FEWEST_LANDS <= len(thing) <= MOST_LANDS and is_rising(thing)


def is_inch(thing):
    return is_whole(thing, 0, MOST_INCHES - 1)


def fits_part(rest):
    return len(rest) == 2 and is_name(rest[0]) and are_parts(rest[1])


def fits_join(rest):
    return len(rest) == 2 and are_lands(rest[0]) and is_name(rest[1])


def fits_forfeit(rest):
    return len(rest) == 2 and all_names(rest)


def fits_measure(rest):
    return len(rest) == 2 and is_name(rest[0]) and is_whole(rest[1], 0, MOST_INCHES)


def fits_mend(rest):
    return len(rest) == 2 and all_names(rest) and rest[0] != rest[1]


def fits_alone(rest):
    return len(rest) == 1 and is_name(rest[0])


def fits_breach(rest):
    if len(rest) != 4 or not is_name(rest[0]) or not is_inch(rest[1]):
        return False
    return is_whole(rest[2], 0, MOST_PENCE) and is_whole(rest[3], 0, MOST_SPADES)


def fits_view(rest):
    return len(rest) == 3 and is_name(rest[0]) and is_inch(rest[1]) and is_name(rest[2])


FORMS = {
    "part": fits_part,
    "join": fits_join,
    "forfeit": fits_forfeit,
    "measure": fits_measure,
    "mend": fits_mend,
    "alone": fits_alone,
    "breach": fits_breach,
    "view": fits_view,
}


def is_row(thing):
    """Whether it is a row, just as it stands."""
    if not isinstance(thing, tuple) or len(thing) < 3:
        return False
    kind, name, day = thing[:3]
    # What is no text may be no key at all, so it is not looked up.
    if not isinstance(kind, str) or kind not in FORMS:
        return False
    if not is_name(name) or not is_whole(day, 0, LAST_DAY):
        return False
    fits = FORMS[kind]
    return fits(thing[3:])


def as_tuples(thing, deep):
    """The thing with tuples in the place of lists, down to so many within one another."""
    if deep == 0 or not isinstance(thing, (list, tuple)):
        return thing
    return tuple([as_tuples(inner, deep - 1) for inner in thing])


def in_order(thing):
    """The thing with its parts or lands sorted, where it may be a part or a join."""
    if not isinstance(thing, tuple) or len(thing) != 5:
        return thing
    kind, name, day, first, last = thing
    # Things of unlike kinds can't be compared: only what is looked through is sorted.
    if kind == "part" and all_parts(last):
        return (kind, name, day, first, tuple(sorted(last)))
    if kind == "join" and all_names(first):
        return (kind, name, day, tuple(sorted(first)), last)
    return thing


def row_of(thing):
    """The row that the thing makes, or NoRow."""
    row = in_order(as_tuples(thing, ROW_DEPTH))
    if not is_row(row):
        raise NoRow("this makes no row")
    return row


def field_of(row):
    """The field that a row speaks of; None where it speaks of none."""
    if row[0] in ("measure", "breach", "view"):
        return row[3]
    return None


def order(row):
    """What rows are sorted by in a roll."""
    return (row[2], RANKS[row[0]], row[1])


def goes_ahead(row, other):
    """Whether the row stands ahead of another one, of another name."""
    return order(row) < order(other)
