import inspect
import itertools
import unittest

from helper import Case, nested, no_wholes
from roundstore import looks
from roundstore.looks import is_look, low, sees
from roundstore.marks import RING

FATES = ("open", "done", "fell")


def dial(one, other, ring):
    """The steps from one to other, counted on a dial."""
    many = 0
    while one != other:
        one = 0 if one == ring - 1 else one + 1
        many += 1
    return many


def ahead(one, other, ring):
    return one != other and 2 * dial(one, other, ring) < ring


def look_by_words(coming, others, ring):
    """As the document says it, pair by pair."""
    pairs = [(one, coming) for one in others]
    pairs += [(others[at], others[at + 1]) for at in range(len(others) - 1)]
    pairs += [(others[0], one) for one in others[1:]]
    return all(ahead(one, other, ring) for one, other in pairs)


class Interface(Case):
    def test_arguments(self):
        told = {"is_look": ("thing",), "low": ("look",), "sees": ("look", "number", "fate")}
        for name, places in told.items():
            function = getattr(looks, name)
            self.assertEqual(function.__module__, "roundstore.looks")
            arguments = inspect.signature(function).parameters
            self.assertEqual(tuple(arguments), places + (() if name == "low" else ("ring",)))
            for one in arguments.values():
                wanted = one.KEYWORD_ONLY if one.name == "ring" else one.POSITIONAL_OR_KEYWORD
                self.assertEqual(one.kind, wanted)
            if name != "low":
                self.assertEqual(arguments["ring"].default, RING)

    def test_ring_by_name_alone(self):
        self.assertRaises(TypeError, is_look, (0, ()), 64)
        self.assertRaises(TypeError, sees, (0, ()), 0, "done", 64)


class IsLook(Case):
    def yes(self, thing, **named):
        self.assertIs(is_look(thing, **named), True, thing)
        self.assertIs(is_look(thing, **named), True, thing)

    def no(self, thing, **named):
        self.assertIs(is_look(thing, **named), False, thing)
        self.assertIs(is_look(thing, **named), False, thing)

    def test_no_open_number(self):
        for coming in range(64):
            self.yes((coming, ()))
        for coming in (-1, 64, 65, 10 ** 18 - 1, -64):
            self.no((coming, ()))
        self.yes((7, ()), ring=8)
        self.no((8, ()), ring=8)
        self.yes((64, ()), ring=66)
        self.yes((2 ** 20 - 1, ()), ring=2 ** 20)
        self.no((2 ** 20, ()), ring=2 ** 20)

    def test_one_open_number(self):
        self.yes((5, (4,)))
        self.no((5, (5,)))
        self.no((5, (6,)))
        self.yes((0, (63,)))
        self.yes((0, (33,)))
        self.no((0, (32,)))
        self.no((0, (31,)))
        self.no((5, (-1,)))
        self.no((5, (64,)))
        self.no((5, (68,)))

    def test_several_open_numbers(self):
        self.yes((9, (3, 5, 8)))
        self.yes((9, (3, 4, 5, 6, 7, 8)))
        self.no((9, (5, 3, 8)))
        self.no((9, (3, 8, 5)))
        self.no((9, (8, 5, 3)))
        self.no((9, (3, 5, 9)))
        self.no((9, (3, 5, 10)))
        self.no((9, (3, 3)))
        self.no((9, (3, 5, 3)))
        self.no((9, (3, 5, 5)))

    def test_about_the_end_of_the_ring(self):
        self.yes((2, (62, 63, 0, 1)))
        self.yes((1, (60, 0)))
        self.no((2, (0, 63)))
        self.no((63, (62, 0)))
        self.yes((1, (6, 7, 0)), ring=8)
        self.no((2, (6, 7, 0)), ring=8)

    def test_half_a_ring_ahead(self):
        self.yes((34, (3, 20)))
        self.no((35, (3, 20)))
        self.no((34, (2, 20)))
        self.yes((4, (1, 2)), ring=8)
        self.no((5, (1, 2)), ring=8)
        # Each is a little before the one behind it, and the first one half a ring ahead of a later one.
        self.no((5, (0, 2, 4)), ring=8)
        self.no((40, (0, 16, 32)))
        self.no((40, (10, 20, 30, 42)))

    def test_all_the_way_round(self):
        self.no((2, (0, 3, 6, 1)), ring=8)
        self.no((1, (0, 20, 40, 60)))
        self.no((63, tuple(range(63))))
        # All before next, but the first one not before all.
        self.no((0, (7, 5, 6)), ring=8)
        self.no((0, (6, 5, 7)), ring=8)

    def test_every_small_one(self):
        for ring in (8, 10):
            for coming in range(ring):
                for many in range(4):
                    for others in itertools.product(range(ring), repeat=many):
                        wanted = look_by_words(coming, others, ring)
                        self.assertIs(is_look((coming, others), ring=ring), wanted, (coming, others, ring))

    def test_of_anything(self):
        for thing in no_wholes():
            known = thing if isinstance(thing, tuple) else None
            if known != (0, ()):
                self.no(thing)
            if known not in ((), (1,)):
                self.no((5, thing))
            self.no((thing, ()))
            self.no((thing, (1,)))
            self.no((5, (thing,)))
            self.no((5, (3, thing)))
            self.no((5, (thing, 4)))
        for number in (0, 1, 63, 64, -1, 10 ** 17):
            self.no(number)
            self.no((5, number))

    def test_lists_in_a_tuples_place(self):
        self.no([5, ()])
        self.no([5, (4,)])
        self.no((5, []))
        self.no((5, [4]))
        self.no((5, ([4],)))
        self.no((5, ((4,),)))
        self.no((5, {4: 4}))
        self.no((5, {4}))
        self.no((5, range(4, 5)))

    def test_truths_are_no_numbers(self):
        self.no((True, ()))
        self.no((False, ()))
        self.no((1, (False,)))
        self.no((2, (True,)))
        self.yes((2, (0, 1)))

    def test_a_part_more_or_fewer(self):
        for thing in ((), (5,), (5, (), ()), (5, (), 1), (5, (4,), None), ((5, ()),), ((), 5), (5, 4)):
            self.no(thing)

    def test_nested(self):
        for deep in range(1, 30):
            self.no(nested(deep, (5, ())))
            self.no((5, nested(deep)))
            self.no((5, nested(deep + 1, 4)))
            self.no((nested(deep, 5), ()))
        self.yes((5, nested(1, 4)))


class Low(Case):
    def test_low(self):
        self.whole(low((5, ())), 5)
        self.whole(low((0, ())), 0)
        self.whole(low((5, (0,))), 0)
        self.whole(low((5, (4,))), 4)
        self.whole(low((9, (3, 5, 8))), 3)
        self.whole(low((2, (62, 63, 0))), 62)
        self.whole(low((2, (62, 63, 0))), 62)


class Sees(Case):
    def truth(self, wanted, look, number, fate, **named):
        for _ in range(2):
            self.assertIs(sees(look, number, fate, **named), wanted, (look, number, fate, named))

    def test_only_what_is_done(self):
        for number in (0, 3, 4):
            self.truth(True, (5, ()), number, "done")
            self.truth(False, (5, ()), number, "open")
            self.truth(False, (5, ()), number, "fell")

    def test_about_next(self):
        for fate in FATES:
            self.truth(fate == "done", (5, ()), 4, fate)
            self.truth(False, (5, ()), 5, fate)
            self.truth(False, (5, ()), 6, fate)
            self.truth(fate == "done", (0, ()), 63, fate)
            self.truth(False, (0, ()), 0, fate)
            self.truth(False, (63, ()), 0, fate)

    def test_open_ones(self):
        look = (9, (3, 5, 8))
        for number in range(3, 12):
            for fate in FATES:
                self.truth(fate == "done" and number in (4, 6, 7), look, number, fate)
        self.truth(True, look, 2, "done")

    def test_half_a_ring_away(self):
        self.truth(True, (40, ()), 9, "done")
        self.truth(False, (40, ()), 8, "done")
        self.truth(False, (40, ()), 7, "done")
        self.truth(True, (1, ()), 6, "done", ring=8)
        self.truth(False, (1, ()), 5, "done", ring=8)
        self.truth(True, (1, ()), 34, "done")
        self.truth(True, (1, ()), 35, "done", ring=66)
        self.truth(False, (1, ()), 34, "done", ring=66)

    def test_every_small_one(self):
        ring = 8
        for coming in range(ring):
            for others in [()] + [(one,) for one in range(ring)] + list(itertools.permutations(range(ring), 2)):
                if not look_by_words(coming, others, ring):
                    continue
                for number, fate in itertools.product(range(ring), FATES):
                    wanted = fate == "done" and ahead(number, coming, ring) and number not in others
                    self.truth(wanted, (coming, others), number, fate, ring=ring)


if __name__ == "__main__":
    unittest.main()
