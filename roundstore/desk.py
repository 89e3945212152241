"""A desk: a store that is made of a text and spoken to by lines."""

from roundstore.doings import FORMS, do
from roundstore.errors import NoLine, NoText
from roundstore.forms import read
from roundstore.kinds import is_store, is_word
from roundstore.store import Store

RING_ROW = ("ring NUMBER NUMBER NUMBER NUMBER",)
ASKED = (
    "freeze WORD CHOICE CHOICE",
    "rows WORD WORD",
    "why WORD WORD WORD",
    "fates",
    "holders",
    "floor",
    "horizon",
    "next",
    "room",
    "log",
)


def tell_freeze(store, table, upto, most):
    """The changes that a freezing makes."""
    return parted([change_text(version, now) for version, now in store.freeze(table, upto=upto, most=most)])


def tell_rows(store, name, table):
    """The rows that a looker sees."""
    return parted([f"{key} {worth}" for key, worth in store.rows(name, table)])


def tell_why(store, name, table, key):
    """The versions of a key, and why they are seen, or not."""
    return parted([f"{version[1]} {ends_text(version)} {state}" for version, state in store.why(name, table, key)])


def tell_fates(store):
    """The numbers from the floor on, and their fates."""
    return parted([f"{number} {fate}" for number, fate in store.fates()])


def tell_holders(store):
    """Who and what is at the floor."""
    return parted([f"{kind} {name}" for kind, name in store.holders()])


def tell_floor(store):
    """The floor."""
    return str(store.floor())


def tell_horizon(store):
    """The horizon."""
    return str(store.horizon())


def tell_next(store):
    """The next number."""
    return str(store.next())


def tell_room(store):
    """How many numbers can be given."""
    return str(store.room())


def tell_log(store):
    """The log."""
    text = str(store)
    return "." if text == "" else text


ANSWERS = {
    "freeze": tell_freeze,
    "rows": tell_rows,
    "why": tell_why,
    "fates": tell_fates,
    "holders": tell_holders,
    "floor": tell_floor,
    "horizon": tell_horizon,
    "next": tell_next,
    "room": tell_room,
    "log": tell_log,
}


class Desk:
    """Takes lines, and tells texts."""

    def __init__(self, text):
        self.store = store_of(text)

    def say(self, line):
        """Does what a line says, or answers what it asks."""
        said = read(line, FORMS)
        if said is not None:
            return do(self.store, said)
        said = read(line, ASKED)
        if said is None:
            raise NoLine()
        word, *handed = said
        answer = ANSWERS[word]
        return answer(self.store, *handed)


def store_of(text):
    """The store that a desk's text tells of."""
    rows = text.split("\n") if isinstance(text, str) else [""]
    numbers = read(rows[0], RING_ROW)
    if numbers is None:
        raise NoText(0)
    tables = tables_in(rows[1]) if len(rows) > 1 else None
    if tables is None:
        raise NoText(1)
    ring, stop, warn, first = numbers[1:]
    # Row 2 is one too many where it stands, and tells how many rows there are where it doesn't.
    if len(rows) > 2 or not is_store(tables, ring, stop, warn, first):
        raise NoText(2)
    return Store(tables, ring=ring, stop=stop, warn=warn, first=first)


def tables_in(row):
    """The words of a row of tables, None of another row."""
    word, *tables = row.split(" ")
    if word != "tables" or len(tables) == 0 or not all([is_word(table) for table in tables]):
        return None
    return tuple(tables)


def parted(texts):
    """What is told, one behind the other."""
    return "." if len(texts) == 0 else " ; ".join(texts)


def change_text(version, now):
    """A version, and what it was made."""
    key, worth = version[:2]
    made = "swept" if now is None else ends_text(now)
    return f"{key} {worth} {ends_text(version)} > {made}"


def ends_text(version):
    """The maker and the ender of a version."""
    return " ".join(["-" if number is None else str(number) for number in version[2:]])
