"""Names, as rows, lands, fields and houses bear them."""

LONGEST = 8


def is_name(thing):
    """Whether it is a text of one to eight small letters a to z."""
    if not isinstance(thing, str) or not 1 <= len(thing) <= LONGEST:
        return False
    return all(["a" <= sign <= "z" for sign in thing])
