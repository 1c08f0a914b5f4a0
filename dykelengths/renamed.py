"""Rolls called otherwise: other names for rows, lands and houses."""

from dykelengths.errors import Clash
from dykelengths.names import is_name
from dykelengths.rolls import roll_of

# What stands at each place: a sort of names, None for what is no name, or a tuple within.
# A tuple that begins with each stands for any number of things of one form.
LAYING = ("each", ("land", "house", None, None))
FORMS = {
    "part": (None, "row", None, "land", ("each", ("land", "house", None))),
    "join": (None, "row", None, ("each", "land"), "land"),
    "forfeit": (None, "row", None, "land", "house"),
    "measure": (None, "row", None, "land", None),
    "mend": (None, "row", None, "house", "house"),
    "alone": (None, "row", None, "house"),
    "breach": (None, "row", None, "land", None, None, None),
    "view": (None, "row", None, "land", None, "house"),
}


def inner_forms(thing, form):
    """Pairs of what is in a tuple and its form."""
    forms = [form[1]] * len(thing) if form[0] == "each" else form
    return list(zip(thing, forms))


def names_in(thing, form):
    """Tuples (sort, name) of all names in the thing."""
    if form is None:
        return []
    if isinstance(form, str):
        return [(form, thing)]
    told = []
    for inner, within in inner_forms(thing, form):
        told.extend(names_in(inner, within))
    return told


def otherwise(thing, form, others):
    """The thing with other names; others holds for each sort a dict of them."""
    if form is None:
        return thing
    if isinstance(form, str):
        return others[form].get(thing, thing)
    return tuple([otherwise(inner, within, others) for inner, within in inner_forms(thing, form)])


def names_of(roll):
    """Tuples (sort, name) of all names in the roll."""
    told = names_in(roll[0], LAYING)
    for row in roll[1]:
        told.extend(names_in(row, FORMS[row[0]]))
    return told


def all_named(names):
    return all([is_name(name) and is_name(other) for name, other in names.items()])


def called(roll, rows, lands, houses):
    """The roll with its rows, lands and houses called otherwise, or Clash."""
    others = {"row": rows, "land": lands, "house": houses}
    if not all([all_named(names) for names in others.values()]):
        raise Clash("a name that is none")
    known = names_of(roll)
    # Names of unlike sorts may be alike, so each is counted with its sort.
    anew = [(sort, others[sort].get(name, name)) for sort, name in known]
    if len(set(anew)) != len(set(known)):
        raise Clash("two unlike names would become one")
    laying = otherwise(roll[0], LAYING, others)
    return roll_of(laying, [otherwise(row, FORMS[row[0]], others) for row in roll[1]])
