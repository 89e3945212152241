"""Who looks at a store: deeds, and far houses."""

from roundstore.errors import NoDeed, NoHouse, NoName, Taken
from roundstore.kinds import is_word


class Looker:
    """A deed or a house, and its look.

    The end is None as long as it looks, then the word by which it ended. Whoever holds the looker
    can tell so that it is over, though another one may have its name by then.
    """

    def __init__(self, name, kind, look):
        self.name = name
        self.kind = kind
        self.look = look
        self.number = None
        self.end = None


class Seats:
    """All who look, in the order in which they began.

    Who ends only says so of itself: it keeps its seat till the next one sits down, so that a deed can be
    ended where no seat can be taken away.
    """

    def __init__(self):
        self.seated = {}

    def sit(self, looker):
        """Seats a new looker; those who look no more go."""
        self.seated = {one.name: one for one in self.standing() + [looker]}

    def standing(self):
        """All who look now."""
        return [one for one in self.seated.values() if one.end is None]

    def deeds(self):
        """All open deeds."""
        return [one for one in self.standing() if one.kind == "deed"]

    def numbers(self):
        """The numbers of all open deeds that have one."""
        return [one.number for one in self.standing() if one.number is not None]

    def found(self, name):
        """Who looks by this name, or None."""
        one = self.seated.get(name) if is_word(name) else None
        return one if one is not None and one.end is None else None

    def check_free(self, name):
        """Refuses what can't be a new looker's name."""
        if not is_word(name) or self.found(name) is not None:
            raise Taken(name)

    def looker(self, name):
        """Who looks by this name."""
        one = self.found(name)
        if one is None:
            raise NoName(name)
        return one

    def deed(self, name):
        """The open deed of this name."""
        one = self.found(name)
        if one is None or one.kind != "deed":
            raise NoDeed(name)
        return one

    def house(self, name):
        """The far house of this name."""
        one = self.found(name)
        if one is None or one.kind != "house":
            raise NoHouse(name)
        return one
