"""Burdens: the least one with which all breaches get their spades, or why there is none."""

from dykelengths.callings import is_calling, is_lot, is_short, lot_needs, lot_spades, settled
from dykelengths.reach import question
from dykelengths.rows import is_number


def spades_of(weights, burden):
    """The spades that each house has with the burden."""
    return {house: weight * burden for house, weight in weights.items()}


def barren(wanted, pairs, weights):
    """The rising list of breaches that need spades, and are reached by houses of weight 0 alone."""
    reached_by_some = {breach: True for house, breach in pairs if weights.get(house, 0) > 0}
    return sorted([breach for breach, many in wanted.items() if many > 0 and breach not in reached_by_some])


def least(roll, at, names, weights, reach):
    """The tuple ("least", burden, calling, lot), or ("never", lot)."""
    wanted, pairs = question(roll, at, names, reach)
    never = barren(wanted, pairs, weights)
    if never:
        return ("never", never)
    burden, lot = 0, None
    word, paper = settled(wanted, pairs, spades_of(weights, burden))
    # No lot that is short can be met with less than its needs by its weights, rounded up: so no burden between is
    # tried. A lot that is short is the widest gap there is, so each next one is of fewer breaches: soon there is none.
    while word == "short":
        lot = paper
        weight = lot_spades(pairs, weights, lot)
        burden = (lot_needs(wanted, lot) + weight - 1) // weight
        word, paper = settled(wanted, pairs, spades_of(weights, burden))
    return ("least", burden, paper, lot)


def is_least(wanted, pairs, weights, thing):
    """Whether the tuple of four shows a burden with which there is a calling, and none with less."""
    word, burden, paper, lot = thing
    if word != "least" or not is_number(burden) or burden < 0:
        return False
    if not is_calling(wanted, pairs, spades_of(weights, burden), paper):
        return False
    if burden == 0:
        return lot is None
    return is_short(wanted, pairs, spades_of(weights, burden - 1), lot)


def is_never(wanted, pairs, weights, thing):
    """Whether the tuple of two shows breaches that no burden can meet."""
    word, lot = thing
    if word != "never" or not is_lot(wanted, lot):
        return False
    return lot_needs(wanted, lot) > 0 and lot_spades(pairs, weights, lot) == 0


def shows_least(roll, at, names, weights, reach, thing):
    """Whether the thing shows the least burden, or that there is none."""
    wanted, pairs = question(roll, at, names, reach)
    if not isinstance(thing, tuple):
        return False
    if len(thing) == 4:
        return is_least(wanted, pairs, weights, thing)
    return len(thing) == 2 and is_never(wanted, pairs, weights, thing)
