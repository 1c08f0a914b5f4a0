"""Callings: which spades go to which breaches, or a lot of breaches that is short."""

from dykelengths.reach import question
from dykelengths.rows import is_rising, is_whole


class Muster:
    """Spades sent so far: what breaches lack still, what houses have left, and how many went from whom to where."""

    def __init__(self, wanted, pairs, spades):
        self.lacking = dict(wanted)
        self.left = {house: spades.get(house, 0) for house, breach in pairs}
        self.sent = {pair: 0 for pair in pairs}
        self.reachers = {breach: [] for breach in wanted}
        self.takers = {house: [] for house in self.left}
        for house, breach in pairs:
            self.reachers[breach].append(house)
            self.takers[house].append(breach)


def search(muster, start):
    """Looks for a house with spades left that reaches the breach, or can stand in elsewhere for one that does.

    Told are the house, or None, a dict from each house seen to the breach that it was asked for, and one from each
    breach seen to the house that sent to it. The shortest way comes first: so few are needed, however many spades.
    """
    asked_for, sender = {}, {start: None}
    queue = [start]
    while queue:
        breach = queue.pop(0)
        for house in muster.reachers[breach]:
            if house in asked_for:
                continue
            asked_for[house] = breach
            if muster.left[house] > 0:
                return (house, asked_for, sender)
            for other in muster.takers[house]:
                if other not in sender and muster.sent[(house, other)] > 0:
                    sender[other] = house
                    queue.append(other)
    return (None, asked_for, sender)


def way_from(house, asked_for, sender):
    """The pairs (house, breach) from the house with spades left back to the breach that the search began at."""
    way = []
    while house is not None:
        breach = asked_for[house]
        way.append((house, breach))
        house = sender[breach]
    return way


def send(muster, way):
    """Sends as many spades as can go this way: each house takes from one breach what the house ahead stands in with."""
    taken = [(giver, breach) for (house, breach), (giver, other) in zip(way, way[1:])]
    first, last = way[0][0], way[-1][1]
    many = min([muster.left[first], muster.lacking[last]] + [muster.sent[pair] for pair in taken])
    for pair in way:
        muster.sent[pair] += many
    for pair in taken:
        muster.sent[pair] -= many
    muster.left[first] -= many
    muster.lacking[last] -= many


def fill(muster, breach):
    """Sends spades while the breach lacks some; told is a lot that is short by it, or nothing where it lacks none."""
    while muster.lacking[breach] > 0:
        house, asked_for, sender = search(muster, breach)
        if house is None:
            # All who reach one of these have no spades left, and sent all they had to these alone.
            return list(sender)
        send(muster, way_from(house, asked_for, sender))
    return []


def settled(wanted, pairs, spades):
    """The tuple of a calling, or of a lot that is short; the lot with which most spades are lacking."""
    muster = Muster(wanted, pairs, spades)
    lot = []
    for breach in wanted:
        lot.extend(fill(muster, breach))
    if lot:
        return ("short", sorted(set(lot)))
    return ("calls", sorted([(house, breach, many) for (house, breach), many in muster.sent.items() if many > 0]))


def is_call(wanted, known, thing):
    """Whether it is a tuple (house, breach, many) of a house that reaches the breach."""
    if not isinstance(thing, tuple) or len(thing) != 3:
        return False
    house, breach, many = thing
    # What is no text may be no key at all, so it is not looked up.
    if not isinstance(house, str) or not isinstance(breach, str) or (house, breach) not in known:
        return False
    return is_whole(many, 1, wanted[breach])


def is_calling(wanted, pairs, spades, thing):
    """Whether the thing is a calling that gives the breaches what is wanted, of these spades."""
    known = {pair: True for pair in pairs}
    if not isinstance(thing, list) or not all([is_call(wanted, known, call) for call in thing]):
        return False
    if not is_rising([(house, breach) for house, breach, many in thing]):
        return False
    got = {breach: 0 for breach in wanted}
    gave = {}
    for house, breach, many in thing:
        got[breach] += many
        gave[house] = gave.get(house, 0) + many
    return got == wanted and all([many <= spades.get(house, 0) for house, many in gave.items()])


def is_lot(wanted, thing):
    """Whether it is a rising list of some of the breaches."""
    if not isinstance(thing, list) or not all([isinstance(name, str) and name in wanted for name in thing]):
        return False
    return is_rising(thing)


def lot_needs(wanted, lot):
    return sum([wanted[breach] for breach in lot])


def lot_spades(pairs, spades, lot):
    """The spades of all houses that reach a breach of the lot."""
    houses = sorted(set([house for house, breach in pairs if breach in lot]))
    return sum([spades.get(house, 0) for house in houses])


def is_short(wanted, pairs, spades, thing):
    """Whether the thing is a lot of breaches that need more than the houses that reach them have."""
    return is_lot(wanted, thing) and lot_needs(wanted, thing) > lot_spades(pairs, spades, thing)


def calling(roll, at, names, spades, reach):
    """The tuple ("calls", calling), or ("short", lot)."""
    wanted, pairs = question(roll, at, names, reach)
    return settled(wanted, pairs, spades)


def shows_calling(roll, at, names, spades, reach, thing):
    """Whether the thing is a calling."""
    wanted, pairs = question(roll, at, names, reach)
    return is_calling(wanted, pairs, spades, thing)


def shows_short(roll, at, names, spades, reach, thing):
    """Whether the thing is a lot that is short."""
    wanted, pairs = question(roll, at, names, reach)
    return is_short(wanted, pairs, spades, thing)
