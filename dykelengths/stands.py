"""Stands: the fewest places from which inspectors see all that some houses tend."""

from dykelengths.doings import moment_behind
from dykelengths.errors import TooMany
from dykelengths.menders import tended_in
from dykelengths.rows import is_rising, is_whole

MOST_STANDS = 300


def view_of(roll, at, houses):
    """The runs (low, high) of wanted places, and the last place of the dyke."""
    moment = moment_behind(roll, at)
    wanted = [(low, high) for low, high, house in tended_in(moment) if house in houses]
    return (wanted, sum(moment.inches.values()) - 1)


def first_wanted(wanted, place):
    """The first wanted place from this one on; None where there is none."""
    for low, high in wanted:
        if place < high:
            return max(low, place)
    return None


def fewest(wanted, last, sight):
    """The tuple (stands, apart), or TooMany: each stand as far on as the first place not seen yet lets it."""
    posts, apart = [], []
    place = first_wanted(wanted, 0)
    while place is not None:
        if len(posts) == MOST_STANDS:
            raise TooMany("more stands are needed than may be")
        posts.append(min(place + sight, last))
        apart.append(place)
        place = first_wanted(wanted, place + 2 * sight + 1)
    return (posts, apart)


def are_places(thing, many, last):
    """Whether it is a rising list of so many places of the dyke."""
    if not isinstance(thing, list) or len(thing) != many:
        return False
    return all([is_whole(place, 0, last) for place in thing]) and is_rising(thing)


def sees_all(wanted, sight, posts):
    """Whether all wanted places are seen from the posts, which rise."""
    place = first_wanted(wanted, 0)
    for post in posts:
        if place is None or place < post - sight:
            break
        place = first_wanted(wanted, post + sight + 1)
    return place is None


def are_apart(wanted, sight, places):
    """Whether all of these are wanted, and no two are seen from one place."""
    if any([first_wanted(wanted, place) != place for place in places]):
        return False
    return all([after - place > 2 * sight for place, after in zip(places, places[1:])])


def stands(roll, at, houses, sight):
    """The tuple (stands, apart), two rising lists of places; or TooMany."""
    wanted, last = view_of(roll, at, houses)
    return fewest(wanted, last, sight)


def shows_stands(roll, at, houses, sight, thing):
    """Whether the thing is a tuple of fewest stands and of as many places apart; or TooMany."""
    wanted, last = view_of(roll, at, houses)
    many = len(fewest(wanted, last, sight)[0])
    if not isinstance(thing, tuple) or len(thing) != 2:
        return False
    posts, apart = thing
    if not are_places(posts, many, last) or not are_places(apart, many, last):
        return False
    return sees_all(wanted, sight, posts) and are_apart(wanted, sight, apart)
