"""States: what was written down and what was taken back so far, and the roll of what stands."""

from dykelengths.errors import NoName, TooMany
from dykelengths.names import is_name
from dykelengths.rolls import MOST_ROWS, laying_of, roll_of, row_for

MOST_FORMS = 60
MOST_BACKS = 60


def standing(state):
    """The list of the rows that stand: those alone in their name that isn't taken back."""
    laying, forms, backs = state
    names = [row[1] for row in forms]
    return [row for row in forms if names.count(row[1]) == 1 and row[1] not in backs]


def start(laying):
    """The state of a laying of which nothing is written down, or NoRoll."""
    return (laying_of(laying), (), ())


def written(state, thing):
    """The state with the row that the thing makes; NoRow where it makes none, TooMany where there is no room."""
    laying, forms, backs = state
    row = row_for(laying, thing)
    if row in forms:
        return state
    told = (laying, tuple(sorted(list(forms) + [row])), backs)
    if len(told[1]) > MOST_FORMS or len(standing(told)) > MOST_ROWS:
        raise TooMany("no more can be written down")
    return told


def taken_back(state, name):
    """The state with the name taken back; NoName where it is none, TooMany where there is no room."""
    laying, forms, backs = state
    if not is_name(name):
        raise NoName("this is no name")
    if name in backs:
        return state
    if len(backs) >= MOST_BACKS:
        raise TooMany("no more can be taken back")
    return (laying, forms, tuple(sorted(list(backs) + [name])))


def roll_now(state):
    """The roll of what stands."""
    return roll_of(state[0], standing(state))
