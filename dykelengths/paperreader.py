"""Papers read from texts: chains, callings and rising lists of names."""

from dykelengths.errors import NoText
from dykelengths.names import is_name
from dykelengths.reader import number_of
from dykelengths.rows import is_rising


def words_of(text):
    """The words of a text, none of a dot; NoText of what is no text."""
    if not isinstance(text, str):
        raise NoText(0)
    return [] if text == "." else text.split(" ")


def in_threes(words):
    """Each word in its three pieces, parted by colons, or NoText."""
    told = [word.split(":") for word in words]
    if not all([len(pieces) == 3 for pieces in told]):
        raise NoText(0)
    return told


def read_chain(text):
    """The chain that is so written, or NoText."""
    links = in_threes(words_of(text))
    if not links or links[0][0] != "-":
        raise NoText(0)
    named = links[0][1:]
    for link in links[1:]:
        named.extend(link)
    if not all([is_name(name) for name in named]):
        raise NoText(0)
    return [(None, links[0][1], links[0][2])] + [(row, land, house) for row, land, house in links[1:]]


def read_calling(text):
    """The calling that is so written, or NoText."""
    told = [(house, breach, number_of(many)) for house, breach, many in in_threes(words_of(text))]
    for house, breach, many in told:
        if not is_name(house) or not is_name(breach) or many is None or many < 1:
            raise NoText(0)
    # Unlike pairs that rise make the tuples rise, whatever is sent.
    if not is_rising([(house, breach) for house, breach, many in told]):
        raise NoText(0)
    return told


def read_names(text):
    """The rising list of names that is so written, or NoText."""
    names = words_of(text)
    if not all([is_name(name) for name in names]) or not is_rising(names):
        raise NoText(0)
    return names
