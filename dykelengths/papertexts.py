"""Papers written as texts: chains, callings, names and places."""


def or_dash(word):
    """The word, a dash for None."""
    return "-" if word is None else word


def in_a_row(words):
    """The words with blanks between, a dot where there are none."""
    return " ".join(words) if words else "."


def chain_text(chain):
    """A chain's tuples as ROW:LAND:HOUSE."""
    return in_a_row([f"{or_dash(row)}:{land}:{house}" for row, land, house in chain])


def calling_text(calling):
    """A calling's tuples as HOUSE:BREACH:MANY."""
    return in_a_row([f"{house}:{breach}:{many}" for house, breach, many in calling])


def names_text(names):
    """A list of names."""
    return in_a_row(names)


def places_text(places):
    """A list of places."""
    return in_a_row([str(place) for place in places])
