"""What several tests need: things of any kind, a store's whole face, a store by endless numbers, random runs."""

import random
import unittest

from roundstore.store import Store

NAMES = ("anna", "bert", "carl", "dora", "emil")
KEYS = ("a", "b", "c", "d")
SIZES = ((8, 3, 2), (8, 2, 1), (10, 4, 4), (12, 5, 3), (16, 7, 4), (64, 28, 20))


class Odd:
    """Claims to be like whatever it's compared with, and has no hash."""

    __hash__ = None

    def __eq__(self, other):
        return True


class Whatever(BaseException):
    """A refusal of a class that no handler by Exception catches."""


def nested(deep, inner=()):
    thing = inner
    for _ in range(deep):
        thing = (thing,)
    return thing


def nested_list(deep):
    thing = []
    for _ in range(deep):
        thing = [thing]
    return thing


def no_wholes():
    """Things of many kinds, none of them a whole number."""
    return [
        True, False, None, "", "a", "1", "0", "ab cd", "\n", "Anna", "abcdefghi", "a\n", "\u00e9", "a1", "none", b"a",
        b"", (), (1,), (0, ()), ("a",), ("a", "b"), (None,), (True,), nested(29, 1), nested(29), nested_list(29),
        [], [0], ["a"], [["a"]], {}, {"a": 1}, {0: 0}, set(), {"a"}, frozenset((0,)), range(3), object(), object,
        int, str, len, lambda thing: thing, ValueError("a"), Odd(), bytearray(b"a"),
    ]


def no_words():
    """Things of many kinds, none of them a word."""
    here = [thing for thing in no_wholes() if not (isinstance(thing, str) and thing in ("a", "none"))]
    return here + [
        0, 1, -1, 7, 8, 64, 10 ** 18 - 1, "a b", " a", "a ", "A", "aB", "{", "`", "\u00df", "\u0430", "a" * 9,
    ]


def no_worths():
    """Things of many kinds, none of them a whole number or a word."""
    return [thing for thing in no_words() if type(thing) is not int]


def small(*tables, **named):
    """A store on a small ring, with one table where none is told."""
    told = {"ring": 16, "stop": 7, "warn": 5, **named}
    return Store(tables or ("rows",), **told)


def face(store):
    """All that a store tells: two are told apart by it wherever something is otherwise."""
    lookers = store.lookers()
    return (
        str(store), repr(store), len(store), lookers, store.fates(), store.next(), store.horizon(), store.floor(),
        store.room(), store.warned(), store.holders(),
        tuple((table, store.versions(table), store.eldest_of(table)) for table in store.tables),
        tuple((one[0], table, store.rows(one[0], table)) for one in lookers for table in store.tables),
    )


class Case(unittest.TestCase):
    maxDiff = None

    def refused(self, wanted, value, store, ask, *handed, **named):
        """Asks what must be refused with just this class and value, and must leave the store as it was."""
        ahead = face(store)
        for _ in range(2):
            with self.assertRaises(wanted) as held:
                ask(*handed, **named)
            self.assertIs(type(held.exception), wanted)
            self.check_value(held.exception, value)
            self.assertEqual(face(store), ahead)

    def check_value(self, error, value):
        found = list(vars(error).values())
        if value is None and not found:
            return
        self.assertEqual(len(found), 1)
        self.assertIs(type(found[0]), type(value))
        if type(value) in (str, int, tuple):
            self.assertEqual(found[0], value)
        else:
            self.assertIs(found[0], value)

    def whole(self, thing, wanted):
        self.assertIs(type(thing), int)
        self.assertEqual(thing, wanted)

    def same(self, thing, wanted):
        """Alike down to the kinds of the parts: no list for a tuple, no True for 1."""
        self.assertEqual(repr(thing), repr(wanted))


class Refused(Exception):
    """What the endless store refuses: the name of the class, and the value."""

    def __init__(self, kind, value):
        self.kind = kind
        self.value = value


class Endless:
    """A store by endless numbers, which the tests hold a Store against.

    Each table is kept twice: whole, where nothing is ever frozen or swept, from which come all rows and
    refusals; and thinned, where freezing is done as the document tells it.
    """

    def __init__(self, tables, ring, stop, warn, first):
        self.tables, self.ring, self.stop, self.warn, self.first = tables, ring, stop, warn, first
        self.coming = first
        self.lookers = {}
        self.fate, self.owner = {}, {}
        self.whole = {table: [] for table in tables}
        self.thin = {table: [] for table in tables}
        self.eldest = {table: first for table in tables}
        self.log = []

    def look_now(self):
        numbers = [one["number"] for one in self.lookers.values() if one["number"] is not None]
        return self.coming, tuple(sorted(numbers))

    def settle(self, name, kind, look):
        self.lookers[name] = {"kind": kind, "look": look, "number": None}

    def begin(self, name):
        if name in self.lookers:
            raise Refused("Taken", name)
        self.settle(name, "deed", self.look_now())
        self.log.append(f"begin {name}")

    def hold(self, name, like=None):
        if name in self.lookers:
            raise Refused("Taken", name)
        if like is not None and like not in self.lookers:
            raise Refused("NoName", like)
        self.settle(name, "house", self.look_now() if like is None else self.lookers[like]["look"])
        self.log.append(f"hold {name}" + ("" if like is None else f" {like}"))

    def let(self, name):
        if self.lookers.get(name, {}).get("kind") != "house":
            raise Refused("NoHouse", name)
        del self.lookers[name]
        self.log.append(f"let {name}")

    def end(self, name, word):
        number = self.deed(name)["number"]
        if number is not None:
            self.fate[number] = word
        del self.lookers[name]
        self.log.append(f"{word} {name}")

    def done(self, name):
        self.end(name, "done")

    def fell(self, name):
        self.end(name, "fell")

    def deed(self, name):
        if self.lookers.get(name, {}).get("kind") != "deed":
            raise Refused("NoDeed", name)
        return self.lookers[name]

    def done_for(self, looker, number):
        upto, others = looker["look"]
        return number is not None and self.fate[number] == "done" and number < upto and number not in others

    def sees(self, looker, row):
        own = looker["number"]
        made = (row[2] == own and own is not None) or self.done_for(looker, row[2])
        ended = (row[3] == own and own is not None) or self.done_for(looker, row[3])
        return made and not ended

    def check_row(self, name, table, key):
        deed = self.deed(name)
        for word in ("open", "done"):
            for row in self.whole[table]:
                if row[0] != key or self.fate[row[2]] == "fell":
                    continue
                for number in [one for one in row[2:4] if one is not None and self.fate[one] == word]:
                    if word == "open" and number != deed["number"]:
                        raise Refused("Waits", self.owner[number])
                    if word == "done" and not self.done_for(deed, number):
                        raise Refused("Late", key)
        return deed

    def give(self, name, deed):
        if deed["number"] is not None:
            return
        if self.coming - self.floor() >= self.stop:
            raise Refused("Stopped", self.holders())
        deed["number"] = self.coming
        self.fate[self.coming], self.owner[self.coming] = "open", name
        self.coming += 1

    def end_seen(self, deed, table, seen):
        for row in seen:
            # A row is the same one in both tables where it was put at the same time.
            for other in self.thin[table]:
                if other[4] == row[4]:
                    other[3] = deed["number"]
            row[3] = deed["number"]

    def seen_rows(self, deed, table, key):
        return [row for row in self.whole[table] if row[0] == key and self.sees(deed, row)]

    def put(self, name, table, key, worth):
        deed = self.check_row(name, table, key)
        seen = self.seen_rows(deed, table, key)
        self.give(name, deed)
        self.end_seen(deed, table, seen)
        for shelf in (self.whole, self.thin):
            shelf[table].append([key, worth, deed["number"], None, len(self.log)])
        self.log.append(f"put {name} {table} {key} {worth}")
        return deed["number"]

    def cut(self, name, table, key):
        deed = self.check_row(name, table, key)
        seen = self.seen_rows(deed, table, key)
        if not seen:
            raise Refused("NoRow", key)
        self.give(name, deed)
        self.end_seen(deed, table, seen)
        self.log.append(f"cut {name} {table} {key}")
        return deed["number"]

    def rows(self, name, table):
        looker = self.lookers[name]
        return tuple(sorted((row[0], row[1]) for row in self.whole[table] if self.sees(looker, row)))

    def low(self, looker):
        upto, others = looker["look"]
        return min(others + (upto,))

    def horizon(self):
        return min([self.low(one) for one in self.lookers.values()] + [self.coming])

    def floor(self):
        return min(self.eldest.values())

    def holders(self):
        floor = self.floor()
        found = [(one["kind"], name) for name, one in self.lookers.items() if self.low(one) == floor]
        return tuple(sorted(found + [("table", table) for table in self.tables if self.eldest[table] == floor]))

    def round(self, thing):
        """Endless numbers, where they fall on the ring."""
        if isinstance(thing, (tuple, list)):
            return tuple(self.round(one) for one in thing)
        return thing % self.ring if type(thing) is int else thing

    def version(self, row):
        return (row[0], row[1]) + self.round(row[2:4])

    def turned(self, row, upto):
        """What freezing makes of a row, None where it's swept."""
        key, worth, maker, ender, at = row
        made, ended = self.fate.get(maker), self.fate.get(ender)
        if made == "fell" or (ended == "done" and ender < upto):
            return None
        return [key, worth, None if made == "done" and maker < upto else maker, None if ended == "fell" else ender, at]

    def freeze(self, table, upto=None, most=None):
        horizon = self.horizon()
        upto = horizon if upto is None else upto
        if not self.eldest[table] <= upto <= self.coming:
            raise Refused("NoNumber", upto % self.ring)
        if upto > horizon:
            raise Refused("Looked", min(name for name, one in self.lookers.items() if self.low(one) == horizon))
        changes, place, shelf = [], 0, self.thin[table]
        while True:
            left = [at for at, row in enumerate(shelf) if self.turned(row, upto) != row]
            if not left:
                self.eldest[table] = upto
                self.log.append(f"eldest {table} {upto % self.ring}")
                return tuple(changes)
            if len(changes) == most:
                return tuple(changes)
            place = left[0]
            now = self.turned(shelf[place], upto)
            changes.append((self.version(shelf[place]), None if now is None else self.version(now)))
            shelf[place:place + 1] = [] if now is None else [now]
            self.log.append(f"turn {table} {place} {upto % self.ring}")

    def face(self):
        """What face tells of a Store."""
        many = sum(len(rows) for rows in self.thin.values())
        floor, lookers = self.floor(), sorted(self.lookers)
        return (
            "".join(row + "\n" for row in self.log), f"Store({many})", many,
            tuple((name, one["kind"], self.round(one["look"]), self.round(one["number"]))
                  for name, one in sorted(self.lookers.items())),
            tuple((number % self.ring, self.fate[number]) for number in range(floor, self.coming)),
            self.round(self.coming), self.round(self.horizon()), self.round(floor),
            self.stop - (self.coming - floor), self.coming - floor >= self.warn, self.holders(),
            tuple((table, tuple(self.version(row) for row in self.thin[table]), self.round(self.eldest[table]))
                  for table in self.tables),
            tuple((name, table, self.rows(name, table)) for name in lookers for table in self.tables),
        )


class Run:
    """A store and its endless twin, and a chance that is the same each time."""

    def __init__(self, seed, tables, size, first):
        ring, stop, warn = size
        self.chance = random.Random(seed)
        self.store = Store(tables, ring=ring, stop=stop, warn=warn, first=first)
        self.twin = Endless(tables, ring, stop, warn, first)
        self.worth = 0
        self.done = 0

    def pick(self):
        """What is to be done next: the name of a door and what is handed in, upto by an endless number."""
        chance, twin = self.chance, self.twin
        deeds = [name for name, one in twin.lookers.items() if one["kind"] == "deed"]
        houses = [name for name in twin.lookers if name not in deeds]
        name = chance.choice(NAMES)
        deed = chance.choice(deeds) if deeds and chance.random() < 0.9 else name
        house = chance.choice(houses) if houses and chance.random() < 0.9 else name
        table, key = chance.choice(twin.tables), chance.choice(KEYS)
        self.worth += 1
        # Where there is no room, more is ended and frozen, so that numbers go round often.
        weights = (14, 26, 6, 14, 3, 2, 5, 12) if twin.coming - twin.floor() < twin.stop else (2, 5, 4, 12, 2, 1, 9, 15)
        door = chance.choices(("begin", "put", "cut", "done", "fell", "hold", "let", "freeze"), weights)[0]
        if not deeds and chance.random() < 0.6:
            door = "begin"
        return door, {
            "begin": (name,), "put": (deed, table, key, self.worth), "cut": (deed, table, key), "done": (deed,),
            "fell": (deed,), "hold": (name, chance.choice((None, None) + NAMES)), "let": (house,),
            "freeze": (table, self.pick_upto(table), chance.choice((None, None, None, 1, 1, 2, 3))),
        }[door]

    def pick_upto(self, table):
        if self.chance.random() < 0.6:
            return None
        return self.chance.randint(self.twin.eldest[table] - 1, self.twin.coming + 1)

    def ask_store(self, door, handed):
        if door == "hold":
            return self.store.hold(handed[0], like=handed[1])
        if door == "freeze":
            return self.store.freeze(handed[0], upto=self.twin.round(handed[1]), most=handed[2])
        return getattr(self.store, door)(*handed)

    def told(self, ask, *handed):
        """What is told, or the name of the refusal's class and its value."""
        try:
            return "told", ask(*handed)
        except Refused as error:
            return error.kind, error.value
        except (ValueError, LookupError, RuntimeError, OverflowError) as error:
            return type(error).__name__, list(vars(error).values())[0]


def script(seed, many):
    """Things to do that never come near a stop: each few numbers nobody looks any more, and all is frozen."""
    chance = random.Random(seed)
    found, here = [], []
    for at in range(many):
        name, key, table = chance.choice(NAMES[:3]), chance.choice(KEYS), chance.choice(("one", "two"))
        found.append(("begin", name))
        here.append(name)
        for _ in range(4):
            found.append(chance.choice((
                ("put", chance.choice(here), table, key, at), ("put", chance.choice(here), table, key, -at),
                ("cut", chance.choice(here), table, key), ("hold", "far"), ("let", "far"),
                ("done", chance.choice(here)), ("fell", chance.choice(here)), ("freeze", table),
            )))
        if at % 5 == 4:
            found += [("done", one) for one in NAMES[:3]] + [("let", "far"), ("freeze", "one"), ("freeze", "two")]
            here = []
    return found
