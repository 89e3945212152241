"""Of anything that is handed in: whether it is a word, a whole number, a worth, a ring, a number of one."""


def is_whole(thing):
    """Whether it is an int that is no truth."""
    return isinstance(thing, int) and not isinstance(thing, bool)


def is_word(thing):
    """Whether it is a text of one to eight letters a to z."""
    return isinstance(thing, str) and 1 <= len(thing) <= 8 and all(["a" <= sign <= "z" for sign in thing])


def is_worth(thing):
    """Whether it is a whole number or a word."""
    return is_whole(thing) or is_word(thing)


def is_ring(thing):
    """Whether it is an even number from 8 on."""
    return is_whole(thing) and thing >= 8 and thing % 2 == 0


def is_number(thing, ring):
    """Whether it is a number of the ring."""
    return is_whole(thing) and 0 <= thing < ring


def is_tables(thing):
    """Whether it is a rising tuple of one word or more."""
    if not isinstance(thing, tuple) or not all([is_word(one) for one in thing]):
        return False
    return len(thing) > 0 and list(thing) == sorted(set(thing))


def is_store(tables, ring, stop, warn, first):
    """Whether a store can be made of these."""
    if not is_tables(tables) or not is_ring(ring) or not is_whole(stop) or not is_whole(warn):
        return False
    return 1 <= warn <= stop < ring // 2 and is_number(first, ring)
