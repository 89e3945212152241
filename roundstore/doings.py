"""What rows of a log and lines of a desk do alike to a store, and what the desk tells of it."""

FORMS = (
    "begin WORD",
    "put WORD WORD WORD WORTH",
    "cut WORD WORD WORD",
    "done WORD",
    "fell WORD",
    "hold WORD",
    "hold WORD WORD",
    "let WORD",
)


def begin(store, name):
    store.begin(name)
    return "done"


def put(store, name, table, key, worth):
    return str(store.put(name, table, key, worth))


def cut(store, name, table, key):
    return str(store.cut(name, table, key))


def done(store, name):
    store.done(name)
    return "done"


def fell(store, name):
    store.fell(name)
    return "done"


def hold(store, name, like=None):
    store.hold(name, like=like)
    return "done"


def let(store, name):
    store.let(name)
    return "done"


DOINGS = {"begin": begin, "put": put, "cut": cut, "done": done, "fell": fell, "hold": hold, "let": let}


def do(store, said):
    """Does what a line that has one of the forms says: tells a text."""
    word, *handed = said
    action = DOINGS[word]
    return action(store, *handed)
