"""A walk: as a store, by endless numbers. Nothing is frozen, swept, forgotten or stopped."""

from roundstore.errors import Late, NoRow, NoStore, NoTable, Waits
from roundstore.kinds import is_tables, is_word, is_worth
from roundstore.lookers import Looker, Seats


class Walk:
    """Tables of versions, who looks at them, and the deeds to which numbers were given.

    The versions (worth, maker, ender) of each key stand by themselves, in their order.
    """

    def __init__(self, tables):
        if not is_tables(tables):
            raise NoStore()
        self.shelves = {table: {} for table in tables}
        self.seats = Seats()
        self.givers = []

    def begin(self, name):
        """A deed begins, and looks."""
        self.seats.check_free(name)
        self.seats.sit(Looker(name, "deed", self.look_now()))

    def put(self, name, table, key, worth):
        """A deed writes a row: tells the deed's number."""
        deed = self.writer(name, table, key, is_worth(worth))
        self.write(deed, table, key)
        self.shelves[table].setdefault(key, []).append((worth, deed.number, None))
        return deed.number

    def cut(self, name, table, key):
        """A deed ends a row that it sees: tells the deed's number."""
        deed = self.writer(name, table, key, True)
        if self.seen_place(deed, table, key) is None:
            raise NoRow(key)
        self.write(deed, table, key)
        return deed.number

    def done(self, name):
        """A deed is done."""
        deed = self.seats.deed(name)
        deed.end = "done"

    def fell(self, name):
        """A deed fell."""
        deed = self.seats.deed(name)
        deed.end = "fell"

    def hold(self, name, *, like=None):
        """A far house begins to look, as of now, or as another looker does."""
        self.seats.check_free(name)
        look = self.look_now() if like is None else self.seats.looker(like).look
        self.seats.sit(Looker(name, "house", look))

    def let(self, name):
        """A far house looks no more."""
        house = self.seats.house(name)
        house.end = "let"

    def rows(self, name, table):
        """The rows that this looker sees."""
        looker = self.seats.looker(name)
        shelf = self.shelf(table)
        places = [(key, self.seen_place(looker, table, key)) for key in sorted(shelf)]
        return tuple([(key, shelf[key][place][0]) for key, place in places if place is not None])

    def shelf(self, table):
        """The versions of a table, by their keys."""
        if not is_word(table) or table not in self.shelves:
            raise NoTable(table)
        return self.shelves[table]

    def look_now(self):
        """The look of one who begins to look now."""
        return (len(self.givers), tuple(sorted(self.seats.numbers())))

    def writer(self, name, table, key, fit):
        """The deed that may write this key; fit is whether the worth is one."""
        deed = self.seats.deed(name)
        shelf = self.shelf(table)
        if not is_word(key) or not fit:
            raise NoRow(key)
        versions = shelf.get(key, [])
        numbers = sorted(set([number for version in versions for number in version[1:] if number is not None]))
        for number in numbers:
            if self.givers[number].end is None and number != deed.number:
                raise Waits(self.givers[number].name)
        for number in numbers:
            if self.givers[number].end == "done" and not self.counts(deed, number):
                raise Late(key)
        return deed

    def write(self, deed, table, key):
        """Gives the deed a number, if it has none, and ends the version of the key that it sees, if there is one."""
        place = self.seen_place(deed, table, key)
        if deed.number is None:
            deed.number = len(self.givers)
            self.givers.append(deed)
        if place is not None:
            versions = self.shelves[table][key]
            versions[place] = versions[place][:2] + (deed.number,)

    def seen_place(self, looker, table, key):
        """The place of the version of this key that is seen, or None."""
        # Who made a version saw all that was done to the key ahead of it, and ended what it saw: for whom the
        # maker counts, no elder version stands.
        for place, (worth, maker, ender) in reversed(list(enumerate(self.shelves[table].get(key, [])))):
            if self.counts(looker, maker):
                return None if ender is not None and self.counts(looker, ender) else place
        return None

    def counts(self, looker, number):
        """Whether what this number did counts for who looks: its own, or done when it began to look."""
        coming, others = looker.look
        if number == looker.number:
            return True
        return number < coming and number not in others and self.givers[number].end == "done"
