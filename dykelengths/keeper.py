"""A keeper: writes rows down, takes names back, and tells what each deed changed."""

from dykelengths.changed import altered, turned
from dykelengths.errors import NoThen
from dykelengths.rolls import row_for
from dykelengths.rows import is_whole
from dykelengths.states import roll_now, start, taken_back, written


class Keeper:
    """Keeps the deeds that were done, and the state behind each of them."""

    def __init__(self, laying):
        self.states = [start(laying)]
        self.told = []

    def write(self, thing):
        """Writes a row down and tells (turned, altered); NoRow or TooMany where it can't be."""
        state = self.states[-1]
        row = row_for(state[0], thing)
        return self.keep(("write", row), written(state, row))

    def back(self, name):
        """Takes a name back and tells (turned, altered); NoName or TooMany where it can't be."""
        return self.keep(("back", name), taken_back(self.states[-1], name))

    def keep(self, deed, state):
        """Keeps a deed and the state behind it, and tells what it changed."""
        ahead, behind = self.roll(), roll_now(state)
        changes = (turned(ahead, behind), altered(ahead, behind))
        self.told.append(deed)
        self.states.append(state)
        return changes

    def roll(self):
        """The roll of what stands."""
        return roll_now(self.states[-1])

    def then(self, many):
        """The roll behind the first so many deeds, or NoThen."""
        if not is_whole(many, 0, len(self.told)):
            raise NoThen("there were never so many deeds")
        return roll_now(self.states[many])

    def deeds(self):
        """The list of deeds that were done and not refused: ("write", row) or ("back", name)."""
        return list(self.told)
