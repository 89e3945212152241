"""A store: deeds write versions of rows under numbers that go round, freezings make room for new numbers."""

from roundstore.errors import Busy, Late, Looked, NoNumber, NoRow, NoStore, NoTable, Stopped, Waits
from roundstore.kinds import is_number, is_store, is_whole, is_word, is_worth
from roundstore.lookers import Looker, Seats
from roundstore.looks import low, sees
from roundstore.marks import RING, STOP, WARN
from roundstore.ring import eldest, on, steps
from roundstore.versions import frozen_among, numbers_in, shown_among, state_among


class Store:
    """Tables of versions, who looks at them, and the numbers that were given."""

    def __init__(self, tables, *, ring=RING, stop=STOP, warn=WARN, first=0):
        if not is_store(tables, ring, stop, warn, first):
            raise NoStore()
        self.tables = tables
        self.ring = ring
        self.stop = stop
        self.warn = warn
        self.first = first
        self.coming = first
        self.shelves = {table: [] for table in tables}
        self.eldests = {table: first for table in tables}
        self.seats = Seats()
        self.givers = {}
        self.log = []
        self.busy = False

    def __eq__(self, other):
        return (isinstance(other, Store) and self.tables == other.tables and self.ring == other.ring
                and self.stop == other.stop and self.warn == other.warn and self.first == other.first
                and self.log == other.log)

    def __len__(self):
        return len([version for table in self.tables for version in self.shelves[table]])

    def __repr__(self):
        return f"Store({len(self)})"

    def __str__(self):
        return "".join([row + "\n" for row in self.log])

    def begin(self, name):
        """A deed begins, and looks."""
        self.check_idle()
        self.seats.check_free(name)
        self.seats.sit(Looker(name, "deed", self.look_now()))
        self.log.append("begin " + name)

    def put(self, name, table, key, worth):
        """A deed writes a row: tells the deed's number."""
        deed = self.writer(name, table, key, is_worth(worth))
        seen = self.seen_place(deed, table, key)
        self.write(deed, table, seen)
        self.shelves[table].append((key, worth, deed.number, None))
        self.log.append(f"put {name} {table} {key} {worth}")
        return deed.number

    def cut(self, name, table, key):
        """A deed ends a row that it sees: tells the deed's number."""
        deed = self.writer(name, table, key, True)
        seen = self.seen_place(deed, table, key)
        if seen is None:
            raise NoRow(key)
        self.write(deed, table, seen)
        self.log.append(f"cut {name} {table} {key}")
        return deed.number

    def done(self, name):
        """A deed is done."""
        self.end_deed(name, "done")

    def fell(self, name):
        """A deed fell."""
        self.end_deed(name, "fell")

    def work(self, name, each):
        """A deed begins, each does its work, and it is done; it fell where something goes out of each."""
        self.begin(name)
        deed = self.seats.deed(name)
        outcome = "fell"
        try:
            told = each(name)
            outcome = "done"
            return told
        finally:
            # The deed itself is asked, not its name: each may have ended it and begun another one so called.
            if deed.end is None:
                deed.end = outcome
                self.log.append(outcome + " " + name)

    def rows(self, name, table):
        """The rows that this looker sees."""
        looker = self.seats.looker(name)
        shelf = self.shelf(table)
        return shown_among(shelf, looker.look, self.fates_in(shelf), looker.number, self.ring)

    def why(self, name, table, key):
        """The versions of a key, and of each whether this looker sees it, or why not."""
        looker = self.seats.looker(name)
        shelf = self.shelf(table)
        found = [version for version in shelf if version[0] == key] if is_word(key) else []
        return tuple([(version, self.state_for(looker, version)) for version in found])

    def versions(self, table):
        """The versions of a table, in order."""
        return tuple(self.shelf(table))

    def fates(self):
        """All numbers given from the floor on, and their fates."""
        floor = self.floor()
        numbers = [on(floor, many, ring=self.ring) for many in range(self.used())]
        return tuple([(number, self.fate_of(number)) for number in numbers])

    def lookers(self):
        """Who looks, rising by name."""
        return tuple(sorted([(one.name, one.kind, one.look, one.number) for one in self.seats.standing()]))

    def next(self):
        """The next number."""
        return self.coming

    def holders(self):
        """Who and what is at the floor."""
        floor = self.floor()
        found = [(one.kind, one.name) for one in self.seats.standing() if low(one.look) == floor]
        return tuple(sorted(found + [("table", table) for table in self.tables if self.eldests[table] == floor]))

    def horizon(self):
        """The eldest number that somebody may still look at as not done."""
        lows = [low(one.look) for one in self.seats.standing()]
        return eldest((self.coming, *lows), ring=self.ring)

    def floor(self):
        """The eldest number that may stand."""
        return eldest(tuple([self.eldests[table] for table in self.tables]), ring=self.ring)

    def room(self):
        """How many numbers can be given."""
        return self.stop - self.used()

    def eldest_of(self, table):
        """The eldest number that may stand in a table."""
        self.shelf(table)
        return self.eldests[table]

    def warned(self):
        """Whether the stop is near."""
        return self.used() >= self.warn

    def freeze(self, table, *, upto=None, most=None, each=None):
        """Freezes a table up to a number, or at most so many of its versions: tells the changes."""
        self.check_idle()
        shelf = self.shelf(table)
        goal = self.horizon() if upto is None else upto
        self.check_goal(table, goal)
        if most is not None and not (is_whole(most) and most >= 1):
            raise NoNumber(most)
        changes = []
        place = 0
        while place < len(shelf):
            version = shelf[place]
            now = self.frozen_now(version, goal)
            if now == version:
                place += 1
            elif len(changes) == most:
                return tuple(changes)
            else:
                self.turn(table, place, now, goal)
                changes.append((version, now))
                self.hand(each, (version, now))
        self.lift(table, goal)
        return tuple(changes)

    def hold(self, name, *, like=None):
        """A far house begins to look, as of now, or as another looker does."""
        self.check_idle()
        self.seats.check_free(name)
        look = self.look_now() if like is None else self.seats.looker(like).look
        self.seats.sit(Looker(name, "house", look))
        self.log.append("hold " + name if like is None else f"hold {name} {like}")

    def let(self, name):
        """A far house looks no more."""
        self.check_idle()
        house = self.seats.house(name)
        house.end = "let"
        self.log.append("let " + name)

    def turn_again(self, table, place, upto):
        """One change of a freezing, as a row of a log tells it: refused where it is none."""
        shelf = self.shelf(table)
        self.check_goal(table, upto)
        if not is_number(place, len(shelf)):
            raise NoNumber(place)
        now = self.frozen_now(shelf[place], upto)
        if now == shelf[place]:
            raise NoNumber(place)
        self.turn(table, place, now, upto)

    def lift_again(self, table, upto):
        """The end of a freezing, as a row of a log tells it: refused where something is left to be changed."""
        shelf = self.shelf(table)
        self.check_goal(table, upto)
        if any([self.frozen_now(version, upto) != version for version in shelf]):
            raise NoNumber(upto)
        self.lift(table, upto)

    def check_idle(self):
        """Refuses what would change the store while a freezing's each is asked."""
        if self.busy:
            raise Busy()

    def check_goal(self, table, goal):
        """Refuses what a table can't be frozen up to."""
        least = self.eldests[table]
        if not is_number(goal, self.ring) or self.on_from(least, goal) > self.on_from(least, self.coming):
            raise NoNumber(goal)
        horizon = self.horizon()
        if self.on_from(least, goal) > self.on_from(least, horizon):
            raise Looked(min([one.name for one in self.seats.standing() if low(one.look) == horizon]))

    def shelf(self, table):
        """The list of a table's versions."""
        if not is_word(table) or table not in self.tables:
            raise NoTable(table)
        return self.shelves[table]

    def writer(self, name, table, key, fit):
        """The deed that may write this key; fit is whether the worth is one."""
        self.check_idle()
        deed = self.seats.deed(name)
        shelf = self.shelf(table)
        if not is_word(key) or not fit:
            raise NoRow(key)
        # A version whose maker fell may be among them: it bears no other number, and so holds up nobody.
        numbers = sorted(set(numbers_in([version for version in shelf if version[0] == key])))
        for number in numbers:
            if self.fate_of(number) == "open" and number != deed.number:
                raise Waits(self.givers[number].name)
        for number in numbers:
            if self.fate_of(number) == "done" and not sees(deed.look, number, "done", ring=self.ring):
                raise Late(key)
        return deed

    def look_now(self):
        """The look of one who begins to look now."""
        floor = self.floor()
        numbers = sorted(self.seats.numbers(), key=lambda number: self.on_from(floor, number))
        return (self.coming, tuple(numbers))

    def end_deed(self, name, outcome):
        """A deed ends by a word."""
        self.check_idle()
        deed = self.seats.deed(name)
        deed.end = outcome
        self.log.append(outcome + " " + name)

    def write(self, deed, table, seen):
        """Gives the deed a number, if it has none, and ends the version in the place seen, if there is one."""
        if deed.number is None:
            if self.room() == 0:
                raise Stopped(self.holders())
            deed.number = self.coming
            self.givers[deed.number] = deed
            self.coming = on(deed.number, 1, ring=self.ring)
        if seen is not None:
            shelf = self.shelves[table]
            shelf[seen] = shelf[seen][:3] + (deed.number,)

    def turn(self, table, place, now, goal):
        """Makes a version what freezing makes of it."""
        if now is None:
            del self.shelves[table][place]
        else:
            self.shelves[table][place] = now
        self.log.append(f"turn {table} {place} {goal}")

    def hand(self, each, change):
        """Hands a change to each, if there is one; the store takes no deeds meanwhile."""
        if each is None:
            return
        self.busy = True
        try:
            each(change)
        finally:
            self.busy = False

    def lift(self, table, goal):
        """Raises a table's eldest; the fates that were needed for it alone are forgotten."""
        self.eldests[table] = goal
        floor = self.floor()
        self.givers = {number: self.givers[number] for number in self.givers
                       if self.on_from(floor, number) < self.on_from(floor, self.coming)}
        self.log.append(f"eldest {table} {goal}")

    def used(self):
        """How many steps lead from the floor to the next number."""
        return self.on_from(self.floor(), self.coming)

    def on_from(self, one, other):
        """The steps on this store's ring."""
        return steps(one, other, ring=self.ring)

    def seen_place(self, deed, table, key):
        """The place of the version of this key that the deed sees, or None."""
        # At most one is seen, and that mostly among the last ones.
        for place, version in reversed(list(enumerate(self.shelves[table]))):
            if version[0] == key and self.state_for(deed, version) == "seen":
                return place
        return None

    def state_for(self, looker, version):
        """The state of a version for who looks."""
        return state_among(version, looker.look, self.fates_in([version]), looker.number, self.ring)

    def frozen_now(self, version, goal):
        """What freezing up to a number makes of a version now."""
        return frozen_among(version, goal, self.fates_in([version]), self.ring)

    def fates_in(self, versions):
        """The fates of all numbers of the versions."""
        return {number: self.fate_of(number) for number in numbers_in(versions)}

    def fate_of(self, number):
        """The fate of a number that was given, from the floor on."""
        found = self.givers[number].end
        return "open" if found is None else found
