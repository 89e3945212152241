import inspect
import itertools
import unittest

from roundstore import ring as ring_module
from roundstore.marks import RING
from roundstore.ring import before, eldest, on, spread, steps

LEAST = 8
GREATEST = 2 ** 20
SMALL = tuple(range(LEAST, 27, 2))
EIGHTEEN = 10 ** 18 - 1


def counted_steps(one, other, ring):
    """Goes round number by number, as one would on a dial."""
    many = 0
    while one != other:
        one = 0 if one == ring - 1 else one + 1
        many += 1
    return many


def table_of_steps(ring):
    return {(a, b): counted_steps(a, b, ring) for a in range(ring) for b in range(ring)}


def counted_eldest(numbers, ring, table):
    """All that are the eldest by the document's words, each once, and how far they reach."""
    found = {}
    for one in numbers:
        reach = [table[one, other] for other in numbers]
        if all(2 * many < ring for many in reach):
            found[one] = max(reach)
    return found


def some_numbers(ring):
    """Numbers of a ring around its ends, its half and its quarters."""
    near = [place + by for place in (0, ring // 4, ring // 2, 3 * ring // 4) for by in (-2, -1, 0, 1, 2)]
    return sorted({number % ring for number in near})


class Case(unittest.TestCase):
    def whole(self, thing, wanted, *told):
        self.assertIs(type(thing), int, told)
        self.assertEqual(thing, wanted, told)

    def truth(self, thing, wanted, *told):
        self.assertIs(thing, wanted, told)

    def both(self, numbers, first, reach, ring):
        """Asks eldest and spread, twice each: asked again the same is told."""
        for _ in range(2):
            found, far = eldest(numbers, ring=ring), spread(numbers, ring=ring)
            if first is None:
                self.assertIsNone(found, (numbers, ring))
                self.assertIsNone(far, (numbers, ring))
            else:
                self.whole(found, first, numbers, ring)
                self.whole(far, reach, numbers, ring)


class Interface(Case):
    def test_defined_here_with_the_told_arguments(self):
        told = {
            "on": ("number", "many"), "steps": ("one", "other"), "before": ("one", "other"),
            "eldest": ("numbers",), "spread": ("numbers",),
        }
        for name, places in told.items():
            function = getattr(ring_module, name)
            self.assertEqual(function.__module__, "roundstore.ring")
            arguments = inspect.signature(function).parameters
            self.assertEqual(tuple(arguments), places + ("ring",))
            for place in places:
                self.assertIs(arguments[place].default, inspect.Parameter.empty)
            self.assertIs(arguments["ring"].kind, inspect.Parameter.KEYWORD_ONLY)
            self.assertEqual(arguments["ring"].default, 64)

    def test_ring_is_handed_in_by_name_alone(self):
        for function in (on, steps, before):
            self.assertRaises(TypeError, function, 1, 2, 64)
        for function in (eldest, spread):
            self.assertRaises(TypeError, function, (1, 2), 64)


class On(Case):
    def test_ring_left_out(self):
        self.whole(on(0, 0), 0)
        self.whole(on(5, 1), 6)
        self.whole(on(63, 0), 63)
        self.whole(on(63, 1), 0)
        self.whole(on(60, 10), 6)
        self.whole(on(5, 64), 5)
        self.whole(on(5, 65), 6)
        self.whole(on(5, 64 * 1000 + 7), 12)

    def test_ring_handed_in(self):
        self.whole(on(7, 1, ring=8), 0)
        self.whole(on(63, 1, ring=66), 64)
        self.whole(on(9, 1, ring=10), 0)
        self.whole(on(GREATEST - 1, 1, ring=GREATEST), 0)
        self.whole(on(GREATEST - 1, 2, ring=GREATEST), 1)
        self.whole(on(63, 1, ring=GREATEST), 64)

    def test_none_or_whole_rings_lead_back(self):
        for ring in SMALL + (RING, GREATEST):
            for number in some_numbers(ring):
                for rounds in (0, 1, 2, 999):
                    self.whole(on(number, rounds * ring, ring=ring), number, ring)

    def test_one_by_one(self):
        for ring in SMALL + (RING,):
            for number in range(ring):
                wanted = number
                for many in range(3 * ring + 1):
                    self.whole(on(number, many, ring=ring), wanted, number, many, ring)
                    wanted = 0 if wanted == ring - 1 else wanted + 1

    def test_up_to_eighteen_figures(self):
        # 64, 10 and 1000 divide 10 ** 18, 8 and 2 ** 20 divide 2 ** 59: the rests are known without the program's sums.
        self.whole(on(0, EIGHTEEN), 63)
        self.whole(on(1, EIGHTEEN), 0)
        self.whole(on(0, EIGHTEEN, ring=10), 9)
        self.whole(on(3, EIGHTEEN, ring=10), 2)
        self.whole(on(0, EIGHTEEN, ring=1000), 999)
        self.whole(on(0, 2 ** 59, ring=GREATEST), 0)
        self.whole(on(GREATEST - 1, 2 ** 59 + 1, ring=GREATEST), 0)
        self.whole(on(5, 2 ** 59 - 1, ring=8), 4)


class Steps(Case):
    def test_ring_left_out(self):
        self.whole(steps(5, 5), 0)
        self.whole(steps(0, 0), 0)
        self.whole(steps(63, 63), 0)
        self.whole(steps(5, 6), 1)
        self.whole(steps(6, 5), 63)
        self.whole(steps(63, 0), 1)
        self.whole(steps(0, 63), 63)
        self.whole(steps(60, 3), 7)
        self.whole(steps(3, 60), 57)
        self.whole(steps(10, 42), 32)
        self.whole(steps(42, 10), 32)

    def test_ring_handed_in(self):
        self.whole(steps(7, 0, ring=8), 1)
        self.whole(steps(0, 7, ring=8), 7)
        self.whole(steps(63, 0, ring=66), 3)
        self.whole(steps(GREATEST - 1, 0, ring=GREATEST), 1)
        self.whole(steps(0, GREATEST - 1, ring=GREATEST), GREATEST - 1)
        self.whole(steps(GREATEST - 3, 4, ring=GREATEST), 7)

    def test_itself_next_and_the_one_ahead(self):
        for ring in SMALL + (RING, GREATEST):
            for number in some_numbers(ring):
                self.whole(steps(number, number, ring=ring), 0, number, ring)
                behind = 0 if number == ring - 1 else number + 1
                self.whole(steps(number, behind, ring=ring), 1, number, ring)
                self.whole(steps(behind, number, ring=ring), ring - 1, number, ring)

    def test_every_pair(self):
        for ring in SMALL + (RING,):
            for (one, other), many in table_of_steps(ring).items():
                self.whole(steps(one, other, ring=ring), many, one, other, ring)
                self.whole(steps(one, other, ring=ring), many, one, other, ring)

    def test_on_by_so_many_leads_to_the_other(self):
        for ring in SMALL + (RING, GREATEST):
            for one, other in itertools.product(some_numbers(ring), repeat=2):
                self.whole(on(one, steps(one, other, ring=ring), ring=ring), other, one, ring)

    def test_greatest_ring_counted(self):
        for one, other in ((0, GREATEST - 1), (GREATEST - 1, GREATEST - 2), (GREATEST // 2 + 1, 1)):
            self.whole(steps(one, other, ring=GREATEST), counted_steps(one, other, GREATEST))


class Before(Case):
    def test_ring_left_out(self):
        self.truth(before(5, 5), False)
        self.truth(before(5, 6), True)
        self.truth(before(6, 5), False)
        self.truth(before(63, 0), True)
        self.truth(before(0, 63), False)
        self.truth(before(50, 10), True)
        self.truth(before(10, 50), False)

    def test_around_half_a_ring_left_out(self):
        self.truth(before(0, 31), True)
        self.truth(before(0, 32), False)
        self.truth(before(0, 33), False)
        self.truth(before(31, 0), False)
        self.truth(before(32, 0), False)
        self.truth(before(33, 0), True)

    def test_ring_handed_in(self):
        self.truth(before(7, 0, ring=8), True)
        self.truth(before(0, 7, ring=8), False)
        self.truth(before(0, 33, ring=68), True)
        self.truth(before(0, 33, ring=66), False)
        self.truth(before(GREATEST - 1, 0, ring=GREATEST), True)

    def test_itself(self):
        for ring in SMALL + (RING, GREATEST):
            for number in some_numbers(ring):
                self.truth(before(number, number, ring=ring), False, number, ring)

    def test_around_half_a_ring_from_anywhere(self):
        for ring in SMALL + (RING, GREATEST):
            half = ring // 2
            for one in some_numbers(ring):
                for many, there, back in ((half - 1, True, False), (half, False, False), (half + 1, False, True)):
                    other = one + many if one + many < ring else one + many - ring
                    self.truth(before(one, other, ring=ring), there, one, other, ring)
                    self.truth(before(other, one, ring=ring), back, one, other, ring)

    def test_every_pair(self):
        for ring in SMALL + (RING,):
            for (one, other), many in table_of_steps(ring).items():
                wanted = one != other and 2 * many < ring
                self.truth(before(one, other, ring=ring), wanted, one, other, ring)
                self.truth(before(one, other, ring=ring), wanted, one, other, ring)

    def test_of_two_unlike_one_is_before_but_for_half_a_ring(self):
        for ring in SMALL + (RING,):
            for one, other in itertools.permutations(range(ring), 2):
                either = before(one, other, ring=ring) + before(other, one, ring=ring)
                self.assertEqual(either, 0 if abs(one - other) == ring // 2 else 1)


class EldestAndSpread(Case):
    def test_ring_left_out(self):
        self.assertEqual((eldest((5,)), spread((5,))), (5, 0))
        self.assertEqual((eldest((9, 5, 7)), spread((9, 5, 7))), (5, 4))
        self.assertEqual((eldest((2, 60, 0)), spread((2, 60, 0))), (60, 6))
        self.assertEqual((eldest((0, 31)), spread((0, 31))), (0, 31))
        self.assertEqual((eldest((0, 32)), spread((0, 32))), (None, None))
        self.assertEqual((eldest((0, 33)), spread((0, 33))), (33, 31))
        self.assertEqual((eldest((0, 21, 42)), spread((0, 21, 42))), (None, None))

    def test_nought_is_an_eldest_and_no_spread_is_nought(self):
        self.both((0,), 0, 0, 64)
        self.both((3, 0), 0, 3, 64)
        self.both((3, 3), 3, 0, 64)

    def test_one_number_and_the_same_again(self):
        for ring in SMALL + (RING, GREATEST):
            for number in some_numbers(ring):
                for often in (1, 2, 5):
                    self.both((number,) * often, number, 0, ring)

    def test_a_number_twice(self):
        self.both((62, 1, 62), 62, 3, 64)
        self.both((1, 62, 1), 62, 3, 64)
        self.both((0, 4, 0, 4), None, None, 8)

    def test_any_order(self):
        for ring in (LEAST, RING, GREATEST):
            half = ring // 2
            held = (ring - 1, 0, half - 2, 1)
            for numbers in itertools.permutations(held):
                self.both(numbers, ring - 1, half - 1, ring)
            for numbers in itertools.permutations(held + (half - 1,)):
                self.both(numbers, None, None, ring)

    def test_half_a_ring(self):
        for ring in SMALL + (RING, GREATEST):
            half = ring // 2
            for one in some_numbers(ring):
                self.both((one, (one + half - 1) % ring), one, half - 1, ring)
                self.both((one, (one + half) % ring), None, None, ring)
                self.both((one, (one + half + 1) % ring), (one + half + 1) % ring, half - 1, ring)

    def test_none_though_no_two_are_half_a_ring_apart(self):
        self.both((0, 3, 6), None, None, 8)
        self.both((6, 0, 3), None, None, 8)
        self.both((0, GREATEST // 3, 2 * GREATEST // 3), None, None, GREATEST)
        self.both((0, 1, 20, 40), None, None, 64)
        self.both((40, 20, 1, 0), None, None, 64)

    def check_counted(self, numbers, ring, table):
        found = counted_eldest(numbers, ring, table)
        self.assertLessEqual(len(found), 1)
        first = next(iter(found), None)
        self.both(numbers, first, found.get(first), ring)

    def test_every_tuple_on_the_least_ring(self):
        table = table_of_steps(LEAST)
        for many in range(1, 5):
            for numbers in itertools.product(range(LEAST), repeat=many):
                self.check_counted(numbers, LEAST, table)

    def test_every_choice_on_small_rings(self):
        for ring in (8, 10, 12):
            table = table_of_steps(ring)
            for many in range(1, ring + 1):
                for numbers in itertools.combinations(range(ring), many):
                    self.check_counted(numbers, ring, table)
                    self.check_counted(numbers[::-1], ring, table)
                    self.check_counted(numbers[many // 2:] + numbers[:many // 2], ring, table)

    def test_every_pair(self):
        for ring in SMALL + (RING,):
            table = table_of_steps(ring)
            for numbers in itertools.product(range(ring), repeat=2):
                self.check_counted(numbers, ring, table)

    def test_many_numbers(self):
        half = GREATEST // 2
        numbers = tuple((GREATEST - 7 + 37 * at) % GREATEST for at in range(half // 37))
        self.both(numbers[::-1], GREATEST - 7, 37 * (half // 37 - 1), GREATEST)
        self.both(tuple(range(RING)), None, None, RING)


class WithinHalfARing(Case):
    """Numbers that never go round, and where each of them falls on the ring."""

    def check_window(self, endless, ring):
        fallen = tuple(number % ring for number in endless)
        for (a, one), (b, other) in itertools.product(list(zip(endless, fallen)), repeat=2):
            self.truth(before(one, other, ring=ring), a < b, a, b, ring)
            self.truth(one == other, a == b, a, b, ring)
            if a <= b:
                self.whole(steps(one, other, ring=ring), b - a, a, b, ring)
                self.whole(on(one, b - a, ring=ring), other, a, b, ring)
            else:
                self.whole(steps(one, other, ring=ring), ring - (a - b), a, b, ring)
        self.both(fallen, min(endless) % ring, max(endless) - min(endless), ring)

    def test_every_choice_on_small_rings(self):
        for ring in (8, 10, 12):
            for start in range(2 * ring + 1):
                window = range(start, start + ring // 2)
                for many in range(1, len(window) + 1):
                    for endless in itertools.combinations(window, many):
                        self.check_window(endless, ring)
                        self.check_window(endless[::-1], ring)

    def test_larger_rings_from_anywhere(self):
        for ring in SMALL + (RING, 1000, GREATEST):
            wide = ring // 2 - 1
            places = sorted({0, 1, wide // 3, wide // 2, wide - 1, wide})
            for start in (0, 1, wide, ring - wide, ring - 1, ring, 7 * ring - 2, 10 ** 17 + 3):
                endless = [start + place for place in places]
                self.check_window(endless, ring)
                self.check_window(endless[::2] + endless[1::2], ring)
                self.check_window(endless[::-1] + endless, ring)


if __name__ == "__main__":
    unittest.main()
