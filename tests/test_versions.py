import inspect
import itertools
import unittest

from helper import Case
from roundstore import versions
from roundstore.marks import RING
from roundstore.versions import frozen, shown, state

FATES = ("open", "done", "fell")


def ahead(one, other, ring):
    return 0 < (other - one) % ring < ring // 2


def done_for(look, number, fate, ring):
    return fate == "done" and ahead(number, look[0], ring) and number not in look[1]


def state_by_words(version, look, fates, own, ring):
    """All words that are so, in the order of the document."""
    key, worth, maker, ender = version
    made, ended = dict(fates).get(maker), dict(fates).get(ender)
    found = []
    if maker is not None:
        if made == "fell":
            found.append("fell")
        if made == "open" and not (own is not None and maker == own):
            found.append("open")
        if made == "done" and not done_for(look, maker, made, ring):
            found.append("later")
    if ender is not None and (ender == own or done_for(look, ender, ended, ring)):
        found.append("cut")
    return found + ["seen"]


class Interface(Case):
    def test_arguments(self):
        told = {
            "state": (("version", "look", "fates"), ("own", "ring")),
            "shown": (("versions", "look", "fates"), ("own", "ring")),
            "frozen": (("version", "upto", "fates"), ("ring",)),
        }
        for name, (places, names) in told.items():
            function = getattr(versions, name)
            self.assertEqual(function.__module__, "roundstore.versions")
            arguments = inspect.signature(function).parameters
            self.assertEqual(tuple(arguments), places + names)
            for one in arguments.values():
                self.assertEqual(one.kind, one.KEYWORD_ONLY if one.name in names else one.POSITIONAL_OR_KEYWORD)
            self.assertEqual(arguments["ring"].default, RING)
            if "own" in names:
                self.assertIsNone(arguments["own"].default)


class State(Case):
    def told(self, wanted, version, look, fates, **named):
        for _ in range(2):
            self.same(state(version, look, fates, **named), wanted)

    def test_fell(self):
        self.told("fell", ("k", 1, 3, None), (5, ()), ((3, "fell"),))
        self.told("fell", ("k", 1, 3, 3), (5, ()), ((3, "fell"),))
        self.told("fell", ("k", 1, 7, None), (5, ()), ((7, "fell"),))
        self.told("fell", ("k", 1, 3, None), (5, ()), ((3, "fell"),), own=3)

    def test_fell_goes_ahead_of_cut(self):
        self.told("fell", ("k", 1, 3, 4), (5, ()), ((3, "fell"), (4, "done")))
        self.told("fell", ("k", 1, 3, 4), (5, (4,)), ((4, "open"), (3, "fell")), own=4)

    def test_open(self):
        self.told("open", ("k", 1, 3, None), (5, (3,)), ((3, "open"),))
        self.told("open", ("k", 1, 3, None), (5, (3,)), ((3, "open"),), own=None)
        self.told("open", ("k", 1, 3, None), (5, (3,)), ((3, "open"),), own=5)
        self.told("open", ("k", 1, 6, None), (5, ()), ((6, "open"),), own=5)

    def test_open_goes_ahead_of_cut(self):
        self.told("open", ("k", 1, 3, 4), (5, (3,)), ((3, "open"), (4, "done")))
        self.told("open", ("k", 1, 3, 6), (5, (3,)), ((3, "open"), (6, "open")), own=6)

    def test_later(self):
        self.told("later", ("k", 1, 5, None), (5, ()), ((5, "done"),))
        self.told("later", ("k", 1, 6, None), (5, ()), ((6, "done"),))
        self.told("later", ("k", 1, 3, None), (5, (3,)), ((3, "done"),))
        self.told("later", ("k", 1, 37, None), (5, ()), ((37, "done"),))
        self.told("seen", ("k", 1, 38, None), (5, ()), ((38, "done"),))
        self.told("later", ("k", 1, 6, None), (5, ()), ((6, "done"),), own=6)

    def test_later_goes_ahead_of_cut(self):
        self.told("later", ("k", 1, 3, 4), (5, (3,)), ((3, "done"), (4, "done")))
        self.told("later", ("k", 1, 6, 7), (5, ()), ((6, "done"), (7, "open")), own=7)

    def test_cut(self):
        self.told("cut", ("k", 1, 3, 4), (5, ()), ((3, "done"), (4, "done")))
        self.told("cut", ("k", 1, None, 4), (5, ()), ((4, "done"),))
        self.told("cut", ("k", 1, 3, 6), (5, ()), ((3, "done"), (6, "open")), own=6)
        self.told("cut", ("k", 1, None, 0), (5, ()), ((0, "open"),), own=0)
        self.told("cut", ("k", 1, 6, 6), (5, ()), ((6, "open"),), own=6)
        self.told("cut", ("k", 1, 3, 3), (5, ()), ((3, "done"),))

    def test_seen(self):
        self.told("seen", ("k", 1, 3, None), (5, ()), ((3, "done"),))
        self.told("seen", ("k", 1, None, None), (5, ()), ())
        self.told("seen", ("k", 1, None, None), (5, ()), (), own=None)
        self.told("seen", ("k", 1, 6, None), (5, ()), ((6, "open"),), own=6)
        self.told("seen", ("k", 1, 0, None), (63, ()), ((0, "open"),), own=0)
        self.told("seen", ("k", 1, 3, 6), (5, ()), ((3, "done"), (6, "done")))
        self.told("seen", ("k", 1, 3, 6), (5, ()), ((3, "done"), (6, "open")))
        self.told("seen", ("k", 1, 3, 6), (5, ()), ((3, "done"), (6, "open")), own=7)
        self.told("seen", ("k", 1, 3, 4), (5, (4,)), ((3, "done"), (4, "done")))
        self.told("seen", ("k", 1, 3, 4), (5, ()), ((3, "done"), (4, "fell")))
        self.told("seen", ("k", 1, None, 5), (5, ()), ((5, "done"),))

    def test_fates_of_other_numbers_and_any_order(self):
        fates = ((1, "fell"), (3, "done"), (9, "open"), (4, "fell"))
        for some in itertools.permutations(fates):
            self.told("seen", ("k", 1, 3, 4), (5, ()), some)
            self.told("fell", ("k", 1, 1, 4), (5, ()), some)

    def test_ring_handed_in(self):
        self.told("seen", ("k", 1, 7, None), (1, ()), ((7, "done"),), ring=8)
        self.told("later", ("k", 1, 7, None), (1, ()), ((7, "done"),))
        self.told("cut", ("k", 1, None, 7), (1, ()), ((7, "done"),), ring=8)
        self.told("later", ("k", 1, 5, None), (1, ()), ((5, "done"),), ring=8)
        self.told("seen", ("k", 1, None, 5), (1, ()), ((5, "done"),), ring=8)

    def test_every_small_one(self):
        ring, look = 8, (2, (7, 0))
        numbers = (None, 5, 6, 7, 0, 1, 2, 3)
        for maker, ender, own in itertools.product(numbers, repeat=3):
            held = [number for number in dict.fromkeys((maker, ender)) if number is not None]
            for some in itertools.product(FATES, repeat=len(held)):
                fates = tuple(zip(held, some))
                version = ("k", "w", maker, ender)
                wanted = state_by_words(version, look, fates, own, ring)[0]
                self.told(wanted, version, look, fates, own=own, ring=ring)


class Shown(Case):
    def test_none(self):
        self.same(shown((), (5, ()), ()), ())
        self.same(shown((("k", 1, 3, None),), (5, ()), ((3, "open"),)), ())

    def test_rising_by_key_whatever_the_order(self):
        rows = (("b", 2, None, None), ("a", 9, None, None), ("ab", "z", 3, None), ("c", -1, 3, 4))
        wanted = (("a", 9), ("ab", "z"), ("b", 2), ("c", -1))
        for some in itertools.permutations(rows):
            self.same(shown(some, (5, ()), ((3, "done"), (4, "fell"))), wanted)
            self.same(shown(some, (5, ()), ((3, "done"), (4, "fell"))), wanted)

    def test_only_those_seen(self):
        rows = (
            ("a", 1, 3, None), ("b", 2, 4, None), ("c", 3, 5, None), ("d", 4, None, 3), ("e", 5, 1, None),
            ("e", 6, 3, 1), ("d", "new", 3, 6), ("b", "old", None, 4),
        )
        fates = ((1, "fell"), (3, "done"), (4, "open"), (5, "done"), (6, "open"))
        self.same(shown(rows, (5, (4,)), fates), (("a", 1), ("b", "old"), ("d", "new"), ("e", 6)))
        self.same(shown(rows, (5, (4,)), fates, own=4), (("a", 1), ("b", 2), ("d", "new"), ("e", 6)))
        self.same(shown(rows, (5, (4,)), fates, own=6), (("a", 1), ("b", "old"), ("e", 6)))

    def test_worths_of_both_kinds(self):
        rows = (("b", "word", None, None), ("a", 3, None, None), ("c", 0, None, None))
        self.same(shown(rows, (5, ()), ()), (("a", 3), ("b", "word"), ("c", 0)))

    def test_ring_handed_in(self):
        rows = (("a", 1, 7, None), ("b", 1, 5, None))
        fates = ((7, "done"), (5, "done"))
        self.same(shown(rows, (1, ()), fates, ring=8), (("a", 1),))
        self.same(shown(rows, (1, ()), fates), ())
        self.same(shown(rows, (8, ()), fates), (("a", 1), ("b", 1)))


class Frozen(Case):
    def told(self, wanted, version, upto, fates, **named):
        for _ in range(2):
            self.same(frozen(version, upto, fates, **named), wanted)

    def test_swept_by_the_makers_fate(self):
        self.told(None, ("k", 1, 3, None), 5, ((3, "fell"),))
        self.told(None, ("k", 1, 5, None), 5, ((5, "fell"),))
        self.told(None, ("k", 1, 7, None), 5, ((7, "fell"),))
        self.told(None, ("k", 1, 7, 8), 5, ((7, "fell"), (8, "open")))

    def test_swept_by_the_ender(self):
        self.told(None, ("k", 1, 3, 4), 5, ((3, "done"), (4, "done")))
        self.told(None, ("k", 1, None, 4), 5, ((4, "done"),))
        self.told(None, ("k", 1, 3, 3), 5, ((3, "done"),))
        self.told(None, ("k", 1, None, 63), 2, ((63, "done"),))

    def test_maker_made_none(self):
        self.told(("k", 1, None, None), ("k", 1, 4, None), 5, ((4, "done"),))
        self.told(("k", "w", None, 6), ("k", "w", 4, 6), 5, ((4, "done"), (6, "done")))
        self.told(("k", "w", None, 4), ("k", "w", 3, 4), 5, ((3, "done"), (4, "open")))
        self.told(("k", 1, None, None), ("k", 1, 0, None), 5, ((0, "done"),))

    def test_ender_made_none(self):
        self.told(("k", 1, None, None), ("k", 1, None, 4), 5, ((4, "fell"),))
        self.told(("k", 1, None, None), ("k", 1, None, 8), 5, ((8, "fell"),))
        self.told(("k", 1, 6, None), ("k", 1, 6, 8), 5, ((6, "done"), (8, "fell")))
        self.told(("k", 1, 6, None), ("k", 1, 6, 8), 5, ((6, "open"), (8, "fell")))

    def test_both(self):
        self.told(("k", 1, None, None), ("k", 1, 3, 4), 5, ((3, "done"), (4, "fell")))
        self.told(("k", 1, None, None), ("k", 1, 3, 9), 5, ((3, "done"), (9, "fell")))

    def test_neither(self):
        for version, fates in (
            (("k", 1, None, None), ()),
            (("k", 1, 4, None), ((4, "open"),)),
            (("k", 1, 4, 4), ((4, "open"),)),
            (("k", 1, None, 4), ((4, "open"),)),
            (("k", 1, 6, 7), ((6, "done"), (7, "done"))),
            (("k", "w", None, 7), ((7, "done"),)),
        ):
            self.told(version, version, 5, fates)

    def test_about_upto(self):
        for number, is_before in ((4, True), (5, False), (6, False)):
            kept = ("k", 1, None if is_before else number, None)
            self.told(kept, ("k", 1, number, None), 5, ((number, "done"),))
            ended = ("k", 1, None, number)
            self.told(None if is_before else ended, ended, 5, ((number, "done"),))

    def test_about_half_a_ring(self):
        self.told(("k", 1, None, None), ("k", 1, 38, None), 5, ((38, "done"),))
        self.told(("k", 1, 37, None), ("k", 1, 37, None), 5, ((37, "done"),))
        self.told(("k", 1, None, None), ("k", 1, 6, None), 1, ((6, "done"),), ring=8)
        self.told(("k", 1, 5, None), ("k", 1, 5, None), 1, ((5, "done"),), ring=8)
        self.told(None, ("k", 1, None, 6), 1, ((6, "done"),), ring=8)
        self.told(("k", 1, None, 5), ("k", 1, None, 5), 1, ((5, "done"),), ring=8)

    def test_every_small_one(self):
        ring, upto = 8, 1
        numbers = (None, 5, 6, 7, 0, 1, 2, 3)
        for maker, ender in itertools.product(numbers, repeat=2):
            held = [number for number in dict.fromkeys((maker, ender)) if number is not None]
            for some in itertools.product(FATES, repeat=len(held)):
                fate = dict(zip(held, some))
                elder = {number: ahead(number, upto, ring) for number in held}
                wanted = ("k", 1, maker, ender)
                if fate.get(maker) == "done" and elder[maker]:
                    wanted = wanted[:2] + (None,) + wanted[3:]
                if fate.get(ender) == "fell":
                    wanted = wanted[:3] + (None,)
                if fate.get(maker) == "fell" or (fate.get(ender) == "done" and elder[ender]):
                    wanted = None
                self.told(wanted, ("k", 1, maker, ender), upto, tuple(fate.items()), ring=ring)


if __name__ == "__main__":
    unittest.main()
