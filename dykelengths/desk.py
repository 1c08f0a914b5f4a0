"""A desk: told orders as texts, it asks a keeper and the stages, and answers with texts."""

from dykelengths.burdens import least
from dykelengths.callings import calling
from dykelengths.chains import chain
from dykelengths.dues import dues
from dykelengths.errors import NoField, NoOrder, NoText
from dykelengths.feet import bearer, runs
from dykelengths.keeper import Keeper
from dykelengths.lands import words
from dykelengths.menders import mends, road
from dykelengths.names import is_name
from dykelengths.papertexts import calling_text, chain_text, names_text, or_dash, places_text
from dykelengths.reader import number_of, read_roll, read_row
from dykelengths.rolls import up_to
from dykelengths.rows import LAST_DAY
from dykelengths.stands import stands
from dykelengths.texts import roll_text
from dykelengths.views import wrong_views

FARTHEST = 10 ** 9
MOST_SENT = 10 ** 9
MOST_NAMES = 12

# How many words an order has, and how many at least.
LENGTHS = {
    "back": 2, "roll": 1, "then": 2, "words": 1, "runs": 2, "whose": 4, "chain": 4, "dues": 2, "wrong": 1, "road": 3,
}
LEAST_LENGTHS = {"write": 2, "stands": 3, "calls": 4, "least": 4}


def has_form(said):
    """Whether the words are an order's, by the first one and by how many they are."""
    word = said[0]
    if word in LENGTHS:
        return len(said) == LENGTHS[word]
    if word in ("calls", "least") and "with" not in said[3:]:
        return False
    return word in LEAST_LENGTHS and len(said) >= LEAST_LENGTHS[word]


def whole(word):
    """The number that the word tells, or NoOrder."""
    number = number_of(word)
    if number is None:
        raise NoOrder("this is no number")
    return number


def up_to_most(word, most):
    """The number that the word tells, none above most, or NoOrder."""
    number = whole(word)
    if number > most:
        raise NoOrder("this number is too great")
    return number


def unlike_names(said):
    """The words, each a name and each there once, or NoOrder."""
    if not all([is_name(word) for word in said]):
        raise NoOrder("this is no name")
    if len(set(said)) != len(said):
        raise NoOrder("a name is there twice")
    return said


def numbers_of(pairs):
    """A dict of the pairs HOUSE:NUMBER, or NoOrder."""
    told = [pair.split(":") for pair in pairs]
    if not all([len(pieces) == 2 for pieces in told]):
        raise NoOrder("this is no pair")
    unlike_names([house for house, number in told])
    return {house: up_to_most(number, MOST_SENT) for house, number in told}


def lines(rows):
    """Each row as a line of its words, none where there is none."""
    if not rows:
        return "none"
    return "\n".join([" ".join([str(thing) for thing in row]) for row in rows])


def changes_text(changes):
    """What a deed changed, as lines."""
    turned, altered = changes
    told = [("ok",)]
    told.extend([("turned", name, or_dash(ahead), or_dash(behind)) for name, ahead, behind in turned])
    told.extend([("altered",) + row for row in altered])
    return lines(told)


def moment_at(keeper, day):
    """The roll, and how many of its rows are behind the day."""
    roll = keeper.roll()
    return (roll, up_to(roll, day))


def spot_asked(keeper, said):
    """The roll, the moment, the field and the inch that are asked of; NoOrder or NoField where there are none."""
    inch, day = whole(said[2]), up_to_most(said[3], LAST_DAY)
    roll, at = moment_at(keeper, day)
    if said[1] not in [place[0] for place in roll[0]]:
        raise NoField("the laying has no such field")
    return (roll, at, said[1], inch)


def breaches_asked(keeper, said):
    """The roll, the moment, the breaches' names, the houses' numbers and the reach that are asked of, or NoOrder."""
    day, reach = up_to_most(said[1], LAST_DAY), up_to_most(said[2], FARTHEST)
    # A breach may be called with, too, so the last one parts the names from the pairs.
    parting = len(said) - 1 - said[::-1].index("with")
    names = unlike_names(said[3:parting])
    if len(names) > MOST_NAMES:
        raise NoOrder("more names than may be asked of")
    numbers = numbers_of(said[parting + 1:])
    roll, at = moment_at(keeper, day)
    return (roll, at, names, numbers, reach)


def say_write(keeper, said):
    return changes_text(keeper.write(read_row(" ".join(said[1:]))))


def say_back(keeper, said):
    return changes_text(keeper.back(said[1]))


def say_roll(keeper, said):
    return roll_text(keeper.roll())


def say_then(keeper, said):
    return roll_text(keeper.then(whole(said[1])))


def say_words(keeper, said):
    roll = keeper.roll()
    return lines([(row[1], word) for row, word in zip(roll[1], words(roll))])


def say_runs(keeper, said):
    roll, at = moment_at(keeper, up_to_most(said[1], LAST_DAY))
    return lines(runs(roll, at))


def say_whose(keeper, said):
    roll, at, field, inch = spot_asked(keeper, said)
    land, house = bearer(roll, at, field, inch)
    return f"{land} {house} {mends(roll, at, house)}"


def say_chain(keeper, said):
    roll, at, field, inch = spot_asked(keeper, said)
    return chain_text(chain(roll, at, field, inch))


def say_dues(keeper, said):
    return lines(dues(keeper.roll(), said[1]))


def say_wrong(keeper, said):
    return lines(wrong_views(keeper.roll()))


def say_road(keeper, said):
    house = unlike_names(said[1:2])[0]
    roll, at = moment_at(keeper, up_to_most(said[2], LAST_DAY))
    return names_text(road(roll, at, house))


def say_calls(keeper, said):
    roll, at, names, spades, reach = breaches_asked(keeper, said)
    word, paper = calling(roll, at, names, spades, reach)
    if word == "calls":
        return f"calls {calling_text(paper)}"
    return f"short {names_text(paper)}"


def say_least(keeper, said):
    roll, at, names, weights, reach = breaches_asked(keeper, said)
    told = least(roll, at, names, weights, reach)
    if told[0] == "least":
        return f"least {told[1]} {calling_text(told[2])}"
    return f"never {names_text(told[1])}"


def say_stands(keeper, said):
    day, sight = up_to_most(said[1], LAST_DAY), up_to_most(said[2], FARTHEST)
    houses = unlike_names(said[3:])
    roll, at = moment_at(keeper, day)
    return places_text(stands(roll, at, houses, sight)[0])


ANSWERS = {
    "write": say_write,
    "back": say_back,
    "roll": say_roll,
    "then": say_then,
    "words": say_words,
    "runs": say_runs,
    "whose": say_whose,
    "chain": say_chain,
    "dues": say_dues,
    "wrong": say_wrong,
    "road": say_road,
    "calls": say_calls,
    "least": say_least,
    "stands": say_stands,
}


class Desk:
    """Keeps a keeper of the laying that its text tells."""

    def __init__(self, text):
        roll = read_roll(text)
        if roll[1]:
            raise NoText(len(roll[0]))
        self.keeper = Keeper(roll[0])

    def say(self, order):
        """The answer to an order, or a refusal."""
        if not isinstance(order, str) or "\n" in order:
            raise NoOrder("an order is one line of text")
        said = order.split(" ")
        if not has_form(said):
            raise NoOrder("there is no such order")
        answer = ANSWERS[said[0]]
        return answer(self.keeper, said)
