"""Who looks at a store: deeds, and far houses."""


class Looker:
    """A deed or a house, and its look.

    The end is None as long as it looks, then the word by which it ended. Whoever holds the looker
    can tell so that it is over, though another one may have its name by then.
    """

    def __init__(self, name, kind, look):
        self.name = name
        self.kind = kind
        self.look = look
        self.number = None
        self.end = None
