"""Versions of rows, (key, worth, maker, ender): who sees them, and what freezing makes of them.

The functions with "among" in their names take the fates as a dict, so that a store with many numbers
needn't go through a tuple of all of them for each version.
"""

from roundstore.looks import sees
from roundstore.marks import RING
from roundstore.ring import before


def state(version, look, fates, *, own=None, ring=RING):
    """Why the look sees the version, or doesn't: the first word that is so."""
    return state_among(version, look, dict(fates), own, ring)


def shown(versions, look, fates, *, own=None, ring=RING):
    """The rows that the look sees, rising by key."""
    return shown_among(versions, look, dict(fates), own, ring)


def frozen(version, upto, fates, *, ring=RING):
    """What freezing up to a number makes of the version: None where it's swept."""
    return frozen_among(version, upto, dict(fates), ring)


def state_among(version, look, fates, own, ring):
    """As state, the fates in a dict."""
    maker, ender = version[2:]
    made = fates.get(maker)
    if made == "fell":
        return "fell"
    if made == "open" and maker != own:
        return "open"
    if made == "done" and not sees(look, maker, made, ring=ring):
        return "later"
    if ender is not None and (ender == own or sees(look, ender, fates.get(ender), ring=ring)):
        return "cut"
    return "seen"


def shown_among(versions, look, fates, own, ring):
    """As shown, the fates in a dict."""
    seen = [version for version in versions if state_among(version, look, fates, own, ring) == "seen"]
    # Each key stands here once, so no worths are compared: numbers and words have no order between them.
    return tuple(sorted([version[:2] for version in seen]))


def frozen_among(version, upto, fates, ring):
    """As frozen, the fates in a dict."""
    key, worth, maker, ender = version
    made, ended = fates.get(maker), fates.get(ender)
    if made == "fell" or (ended == "done" and before(ender, upto, ring=ring)):
        return None
    if made == "done" and before(maker, upto, ring=ring):
        maker = None
    if ended == "fell":
        ender = None
    return (key, worth, maker, ender)


def numbers_in(versions):
    """The numbers that the versions bear, of makers and enders, in their order."""
    return [number for version in versions for number in version[2:] if number is not None]
