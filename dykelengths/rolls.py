"""Rolls: a laying and its rows in their order."""

from dykelengths.errors import NoName, NoRoll, NoRow, TooMany, Twice
from dykelengths.rows import as_tuples, field_of, is_laying, order, row_of

MOST_ROWS = 40

# A laying holds its fields: two tuples within one another.
LAYING_DEPTH = 2


def laying_of(thing):
    """The laying that the thing makes, or NoRoll."""
    laying = as_tuples(thing, LAYING_DEPTH)
    if not is_laying(laying):
        raise NoRoll("this makes no laying")
    return laying


def row_for(laying, thing):
    """The row of this laying that the thing makes, or NoRow."""
    row = row_of(thing)
    field = field_of(row)
    if field is not None and field not in [place[0] for place in laying]:
        raise NoRow("the laying has no such field")
    return row


def row_for_roll(laying, thing):
    try:
        return row_for(laying, thing)
    except NoRow:
        raise NoRoll("one of these makes no row of the laying") from None


def by_names(laying, things):
    """A dict from names to the rows that the things make, each row once; or NoRoll."""
    named = {}
    for thing in things:
        row = row_for_roll(laying, thing)
        if named.setdefault(row[1], row) != row:
            raise NoRoll("two unlike rows of one name")
    return named


def roll_of(laying, rows):
    """The roll that two things make, or NoRoll."""
    made = laying_of(laying)
    if not isinstance(rows, (list, tuple)):
        raise NoRoll("rows come in a list or a tuple")
    named = by_names(made, rows)
    if len(named) > MOST_ROWS:
        raise NoRoll("more rows than a roll holds")
    return (made, tuple(sorted(named.values(), key=order)))


def row_called(roll, name):
    """The roll's row of this name, or NoName."""
    for row in roll[1]:
        if row[1] == name:
            return row
    raise NoName("no row is called so")


def with_row(roll, thing):
    """The roll with a row more; NoRow, Twice or TooMany where it can't be."""
    laying, rows = roll
    row = row_for(laying, thing)
    if row[1] in [known[1] for known in rows]:
        raise Twice("a row of this name is there")
    if len(rows) >= MOST_ROWS:
        raise TooMany("a roll holds no more rows")
    return (laying, tuple(sorted(list(rows) + [row], key=order)))


def without_row(roll, name):
    """The roll without its row of this name, or NoName."""
    gone = row_called(roll, name)
    return (roll[0], tuple([row for row in roll[1] if row != gone]))


def up_to(roll, day):
    """How many rows there are up to the day, its own among them."""
    return len([row for row in roll[1] if row[2] <= day])
