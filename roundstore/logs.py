"""Coming up from a log, or from any cut of it."""

from roundstore.doings import FORMS, do
from roundstore.errors import Late, Looked, NoDeed, NoHouse, NoName, NoNumber, NoRow, NoTable, Stopped, Taken, Waits
from roundstore.forms import read
from roundstore.marks import RING, STOP, WARN
from roundstore.store import Store

FREEZINGS = ("turn WORD NUMBER NUMBER", "eldest WORD NUMBER")


def come_up(tables, text, *, ring=RING, stop=STOP, warn=WARN, first=0):
    """A store on which the rows of the text were done, as far as they can be, and how many signs these have."""
    store = Store(tables, ring=ring, stop=stop, warn=warn, first=first)
    signs = 0
    # Behind the last line feed stands no whole row.
    for row in text.split("\n")[:-1]:
        if not is_redone(store, row):
            break
        signs += len(row) + 1
    names = [deed.name for deed in store.seats.deeds()]
    for name in names:
        store.fell(name)
    return (store, signs)


def is_redone(store, row):
    """Does what a row tells: whether it is so written, and not refused."""
    try:
        return redo(store, row)
    except (Late, Looked, NoDeed, NoHouse, NoName, NoNumber, NoRow, NoTable, Stopped, Taken, Waits):
        return False


def redo(store, row):
    """Does what a row tells: whether it is so written."""
    said = read(row, FORMS)
    if said is not None:
        do(store, said)
        return True
    said = read(row, FREEZINGS)
    if said is not None:
        refreeze(store, said)
    return said is not None


def refreeze(store, said):
    """A part of a freezing again."""
    word, *handed = said
    if word == "turn":
        store.turn_again(*handed)
    else:
        store.lift_again(*handed)
