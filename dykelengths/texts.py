"""Rows, rolls and deeds written as texts."""


def row_words(row):
    """The words of a row's line."""
    kind, name, day = row[:3]
    words = [kind, name, str(day)]
    if kind == "part":
        words.append(row[3])
        for land, house, acres in row[4]:
            words.extend([land, house, str(acres)])
    elif kind == "join":
        words.extend(list(row[3]) + ["as", row[4]])
    else:
        words.extend([str(thing) for thing in row[3:]])
    return words


def row_text(row):
    """A row as one line."""
    return " ".join(row_words(row))


def field_text(place):
    """The line of one of a laying's fields."""
    field, house, acres, inches = place
    return f"field {field} {house} {acres} {inches}"


def roll_text(roll):
    """A roll, line by line: its laying, then its rows."""
    laying, rows = roll
    return "\n".join([field_text(place) for place in laying] + [row_text(row) for row in rows])


def deed_text(deed):
    """A deed of a log as one line."""
    word, what = deed
    if word == "write":
        return f"write {row_text(what)}"
    return f"back {what}"
