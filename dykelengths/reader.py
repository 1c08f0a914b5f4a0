"""Rows, rolls and deeds read from texts."""

from dykelengths.errors import NoText
from dykelengths.names import is_name
from dykelengths.rolls import MOST_ROWS
from dykelengths.rows import MOST_FIELDS, field_of, goes_ahead, is_field, is_row

MOST_FIGURES = 60

# The places of numbers in the lines of rows whose words are just their things, the day's aside.
NUMBERS = {"forfeit": (), "measure": (4,), "mend": (), "alone": (), "breach": (4, 5, 6), "view": (4,)}


def number_of(word):
    """The whole number that is so written, None where none is."""
    if not 1 <= len(word) <= MOST_FIGURES or not all(["0" <= sign <= "9" for sign in word]):
        return None
    if word[0] == "0" and word != "0":
        return None
    return int(word)


def with_numbers(words, places):
    """The words as a tuple, with numbers in these places."""
    return tuple([number_of(word) if at in places else word for at, word in enumerate(words)])


def part_of(words):
    """The parting that the words tell, where they tell one."""
    parts = [with_numbers(words[at:at + 3], (2,)) for at in range(4, len(words), 3)]
    return with_numbers(words[:4], (2,)) + (tuple(parts),)


def join_of(words):
    """The joining that the words tell, where they tell one."""
    if len(words) < 5 or words[-2] != "as":
        return None
    return with_numbers(words[:3], (2,)) + (tuple(words[3:-2]), words[-1])


def row_in(line):
    """The row that is so written, None where none is."""
    words = line.split(" ")
    row = None
    if words[0] == "part":
        row = part_of(words)
    elif words[0] == "join":
        row = join_of(words)
    elif words[0] in NUMBERS:
        row = with_numbers(words, (2,) + NUMBERS[words[0]])
    return row if is_row(row) else None


def field_in(line):
    """The tuple of a laying that is so written, None where none is."""
    field = with_numbers(line.split(" ")[1:], (2, 3))
    return field if is_field(field) else None


def goes_behind(row, laying, rows):
    """Whether the row may stand behind these in a roll of the laying."""
    field = field_of(row)
    if field is not None and field not in [place[0] for place in laying]:
        return False
    if len(rows) >= MOST_ROWS or row[1] in [known[1] for known in rows]:
        return False
    return not rows or goes_ahead(rows[-1], row)


def take_line(line, laying, rows):
    """Puts what the line tells into the laying or the rows so far; tells whether it may stand there."""
    if line.startswith("field "):
        field = field_in(line)
        if field is None or rows or len(laying) >= MOST_FIELDS or field[0] in [place[0] for place in laying]:
            return False
        laying.append(field)
        return True
    row = row_in(line)
    if row is None or not laying or not goes_behind(row, laying, rows):
        return False
    rows.append(row)
    return True


def read_row(text):
    """The row that is so written, or NoText."""
    row = row_in(text) if isinstance(text, str) else None
    if row is None:
        raise NoText(0)
    return row


def read_roll(text):
    """The roll that is so written, or NoText with its first wrong line."""
    if not isinstance(text, str):
        raise NoText(0)
    laying, rows = [], []
    for at, line in enumerate(text.split("\n")):
        if not take_line(line, laying, rows):
            raise NoText(at)
    return (tuple(laying), tuple(rows))


def read_deed(text):
    """The deed of a log that is so written, or NoText."""
    if not isinstance(text, str):
        raise NoText(0)
    word, blank, rest = text.partition(" ")
    if word == "write":
        return ("write", read_row(rest))
    if word != "back" or not is_name(rest):
        raise NoText(0)
    return ("back", rest)
