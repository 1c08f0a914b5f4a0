"""Views: which of the inspectors' words are wrong."""

from dykelengths.doings import Moment, bearing_acre, carry_out, holder


def wrong_views(roll):
    """The rising list of tuples (name, house, told) of views that wrote another house than the inch is of."""
    laying, rows = roll
    moment = Moment(laying)
    wrong = []
    for row in rows:
        word = carry_out(moment, row)
        if row[0] == "view" and word == "done":
            name, field, inch, house = row[1], row[3], row[4], row[5]
            told = holder(moment, field, bearing_acre(moment, field, inch))[1]
            if told != house:
                wrong.append((name, house, told))
    return sorted(wrong)
