"""Looks: the number that would be given next when one began, and those open then, the elder first."""

from roundstore.kinds import is_number
from roundstore.marks import RING
from roundstore.ring import before


def is_look(thing, *, ring=RING):
    """Whether it is a look, of anything."""
    if not isinstance(thing, tuple) or len(thing) != 2:
        return False
    coming, others = thing
    if not is_number(coming, ring) or not isinstance(others, tuple):
        return False
    return all([is_number(one, ring) for one in others]) and in_order([*others, coming], ring)


def in_order(numbers, ring):
    """Whether each is before the one behind it and before the last, and the first one before all."""
    pairs = list(zip(numbers, numbers[1:]))
    # So all lie in the half ring ahead of the last one, where who is before the next is before all behind it:
    # the first one needs no pairs of its own.
    pairs += [(one, numbers[-1]) for one in numbers[:-1]]
    return all([before(one, other, ring=ring) for one, other in pairs])


def low(look):
    """The first one that was open, or the next one where none was."""
    coming, others = look
    return others[0] if len(others) > 0 else coming


def sees(look, number, fate, *, ring=RING):
    """Whether a number of this fate is done for the look."""
    coming, others = look
    return fate == "done" and before(number, coming, ring=ring) and number not in others
