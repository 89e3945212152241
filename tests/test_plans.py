import inspect
import itertools
import random
import time
import unittest

from helper import Case
from roundstore import plans
from roundstore.errors import Stopped
from roundstore.plans import fewest, passes, reached, worst
from roundstore.store import Store


class Interface(Case):
    def test_arguments(self):
        told = {
            "worst": (("tables",), {"every": inspect.Parameter.empty, "longest": inspect.Parameter.empty}),
            "fewest": (("rounds",), {"room": 28}),
            "reached": (("rounds",), {"room": 28}),
            "passes": (("rounds", "some"), {"room": 28}),
        }
        for name, (places, named) in told.items():
            arguments = inspect.signature(vars(plans)[name]).parameters
            self.assertEqual(tuple(arguments), places + tuple(named), name)
            for one, default in named.items():
                self.assertEqual(arguments[one].kind, inspect.Parameter.KEYWORD_ONLY)
                self.assertEqual(arguments[one].default, default)

    def test_by_name_alone(self):
        self.assertRaises(TypeError, worst, 1, 2, 3)
        self.assertRaises(TypeError, worst, 1, every=2)
        self.assertRaises(TypeError, worst, 1, longest=2)
        self.assertRaises(TypeError, fewest, (), 3)
        self.assertRaises(TypeError, reached, (), 3)
        self.assertRaises(TypeError, passes, (), (), 3)
        self.same(worst(2, longest=5, every=3), 11)


def most_steps(tables, every, longest, many):
    """A walk of the test's own: freezings in turn, looks as long as can be, the most steps that were met."""
    eldests, found = [0] * tables, 0
    for given in range(1, many + 1):
        found = max(found, given - min(eldests))
        if given % every == 0:
            eldests[given // every % tables] = max(0, given - longest)
    return found


class Turns:
    """A store whose tables are frozen in turn, and which houses look at as long as they may."""

    def __init__(self, tables, every, longest, stop, first=0):
        self.tables = tuple("abcdef"[:tables])
        ring = max(8, 2 * stop + 2)
        self.store = Store(self.tables, ring=ring, stop=stop, warn=1, first=first % ring)
        self.every, self.longest = every, longest
        self.given = 0
        self.most = 0

    def name_of(self, number):
        """A house for each of the numbers that may still be looked at."""
        at = number % (self.longest + 1)
        return "h" + chr(97 + at // 26 % 26) + chr(97 + at % 26)

    def give(self, writer="zz"):
        """One number more, by whoever writes; then a table, where it is time."""
        store = self.store
        if self.given + 1 > self.longest:
            # With the number that comes now this one would look too long.
            store.let(self.name_of(self.given - self.longest))
        store.hold(self.name_of(self.given))
        store.begin(writer)
        try:
            store.put(writer, self.tables[self.given % len(self.tables)], "k", self.given)
        finally:
            store.done(writer)
        self.given += 1
        self.most = max(self.most, self.store.stop - store.room())
        if self.given % self.every == 0:
            store.freeze(self.tables[self.given // self.every % len(self.tables)])


class Worst(Case):
    def test_edges(self):
        self.same(worst(1, every=1, longest=1), 2)
        self.same(worst(1, every=1, longest=9), 10)
        self.same(worst(1, every=9, longest=1), 10)
        self.same(worst(6, every=1, longest=1), 7)
        self.same(worst(6, every=4, longest=3), 27)
        self.same(worst(10 ** 6, every=10 ** 6, longest=7), 10 ** 12 + 7)

    def test_against_a_walk(self):
        for tables in range(1, 7):
            for every in range(1, 6):
                for longest in (1, 2, 3, 4, 7, 20, 50):
                    many = 3 * (tables * every + longest) + 5
                    wanted = most_steps(tables, every, longest, many)
                    self.whole(worst(tables, every=every, longest=longest), wanted)

    def test_a_store_of_this_stop_never_refuses(self):
        for tables in range(1, 5):
            for every in (1, 2, 3, 5):
                for longest in (1, 2, 3, 6, 11):
                    stop = worst(tables, every=every, longest=longest)
                    for first in (0, stop + 1):
                        turns = Turns(tables, every, longest, stop, first)
                        for _ in range(3 * turns.store.ring):
                            turns.give()
                        self.same(turns.most, stop)

    def test_a_store_of_one_less_does(self):
        for tables in range(1, 5):
            for every in (1, 2, 3, 5):
                for longest in (1, 2, 3, 6, 11):
                    stop = worst(tables, every=every, longest=longest) - 1
                    turns = Turns(tables, every, longest, stop)
                    with self.assertRaises(Stopped):
                        for _ in range(3 * turns.store.ring):
                            turns.give()
                    self.same(turns.most, stop)


class InTime(Case):
    """Point 4 (d): looks of many lengths, none too long, and freezings in time: no number is refused."""

    def run_one(self, seed):
        chance = random.Random(seed)
        tables, every, longest = chance.randint(1, 6), chance.randint(1, 4), chance.randint(1, 12)
        stop = worst(tables, every=every, longest=longest)
        ring = max(8, 2 * stop + 2)
        names = tuple("abcdef"[:tables])
        store = Store(names, ring=ring, stop=stop, warn=1, first=chance.randrange(ring))
        given = 0
        for at in range(2 * ring + 40):
            self.end_old(store, longest, chance)
            name = f"d{chr(97 + at % 26)}{chr(97 + at // 26 % 26)}"
            store.begin(name)
            store.put(name, chance.choice(names), name, at)
            given += 1
            self.assertLessEqual(self.far(store), longest)
            chance.choice((store.done, store.fell, lambda name: None))(name)
            if chance.random() < 0.3:
                self.hold_some(store, chance)
            self.assertLessEqual(self.far(store), longest)
            if given % every == 0:
                store.freeze(names[given // every % tables])
        return given, ring

    def far(self, store):
        """The most steps from a look's low to next."""
        return (store.next() - store.horizon()) % store.ring

    def hold_some(self, store, chance):
        if "house" not in [one[0] for one in store.lookers()]:
            likes = [None] + [one[0] for one in store.lookers()]
            store.hold("house", like=chance.choice(likes))

    def end_old(self, store, longest, chance):
        """Ends whoever would look too long with one number more, and some others; the new deed's look counts too."""
        while self.far(store) + 1 > longest or (store.lookers() and chance.random() < 0.2):
            lows = [(((store.next() - min(look[1] + (look[0],), key=lambda number: (number - store.floor())
                                          % store.ring)) % store.ring), name, sort)
                    for name, sort, look, number in store.lookers()]
            far, name, sort = max(lows)
            if sort == "house":
                store.let(name)
            else:
                chance.choice((store.done, store.fell))(name)

    def test_no_number_is_refused(self):
        for seed in range(60):
            given, ring = self.run_one(seed)
            self.assertGreater(given, 2 * ring)


def own_steps(rounds, some):
    """The steps behind each round, each counted anew from where they are fewest."""
    found = []
    for at in range(len(rounds)):
        sums = [sum(takes for takes, lag in rounds[:at + 1])]
        sums += [rounds[one][1] + sum(takes for takes, lag in rounds[one:at + 1]) for one in some if one <= at]
        found.append(min(sums))
    return found


def own_passed(rounds, some, room):
    """How many rounds are passed."""
    for at, many in enumerate(own_steps(rounds, some)):
        if many > room:
            return at
    return len(rounds)


def own_reached(rounds, room):
    """How many rounds can be passed with so many freezings, by all choices of them."""
    return [max(own_passed(rounds, some, room) for some in itertools.combinations(range(len(rounds)), many))
            for many in range(len(rounds) + 1)]


def some_rounds(chance, many, takes, lag):
    return tuple((chance.randint(0, takes), chance.randint(0, lag)) for _ in range(many))


class Passes(Case):
    def test_none(self):
        self.same(passes((), ()), ())
        self.same(passes((), (), room=0), ())

    def test_one(self):
        self.same(passes(((5, 0),), ()), (5,))
        self.same(passes(((5, 0),), (0,)), (5,))
        self.same(passes(((5, 9),), (0,)), (5,))
        self.same(passes(((0, 0),), (), room=0), (0,))
        self.same(passes(((0, 7),), (0,), room=0), (0,))
        self.same(passes(((1, 0),), (0,), room=0), (1,))

    def test_many(self):
        rounds = ((10, 3), (10, 3), (10, 3), (10, 3))
        self.same(passes(rounds, (), room=40), (10, 20, 30, 40))
        self.same(passes(rounds, (2,), room=40), (10, 20, 13, 23))
        self.same(passes(rounds, (1, 3), room=40), (10, 13, 23, 13))
        self.same(passes(rounds, (0, 1, 2, 3), room=40), (10, 13, 13, 13))

    def test_up_to_the_first_above_room(self):
        rounds = ((10, 3), (10, 3), (10, 3), (10, 3))
        self.same(passes(rounds, (), room=20), (10, 20, 30))
        self.same(passes(rounds, (), room=19), (10, 20))
        self.same(passes(rounds, (3,), room=20), (10, 20, 30))
        self.same(passes(rounds, (2,), room=20), (10, 20, 13, 23))
        self.same(passes(rounds, (2, 3), room=20), (10, 20, 13, 13))
        self.same(passes(rounds, (2, 3), room=9), (10,))

    def test_room_left_out(self):
        self.same(passes(((28, 0), (0, 0), (1, 0), (1, 0)), ()), (28, 28, 29))
        self.same(passes(((29, 0), (1, 0)), ()), (29,))

    def test_a_lag_greater_than_the_steps(self):
        self.same(passes(((4, 0), (2, 9), (1, 6), (1, 7)), (1, 2, 3)), (4, 6, 7, 8))
        self.same(passes(((4, 0), (2, 4), (1, 5)), (1, 2)), (4, 6, 6))

    def test_takes_and_lags_of_nought(self):
        self.same(passes(((0, 0), (3, 0), (0, 0), (0, 1), (2, 0)), (2, 3)), (0, 3, 0, 0, 2))
        self.same(passes(((3, 0), (0, 1), (0, 0), (3, 0)), (1, 3), room=3), (3, 1, 1, 3))

    def test_whole_numbers_in_a_tuple(self):
        told = passes(((1, 2), (3, 4)), (1,), room=9)
        self.assertIs(type(told), tuple)
        for one in told:
            self.assertIs(type(one), int)

    def test_by_chance(self):
        chance = random.Random(5)
        for _ in range(400):
            rounds = some_rounds(chance, chance.randint(0, 12), 6, 8)
            some = tuple(at for at in range(len(rounds)) if chance.random() < chance.choice((0, 0.3, 1)))
            room = chance.randint(0, 25)
            steps = own_steps(rounds, some)
            passed = own_passed(rounds, some, room)
            self.same(passes(rounds, some, room=room), tuple(steps[:passed + 1]))


class Fewest(Case):
    def check(self, rounds, room):
        """Against all choices of freezings."""
        most = own_reached(rounds, room)
        told = fewest(rounds, room=room)
        self.same(fewest(rounds, room=room), told)
        self.assertIs(type(told), tuple)
        if len(rounds) not in most:
            self.same(told, ("never", max(most)))
        else:
            self.check_plan(rounds, room, told, most.index(len(rounds)))
        wanted = most[:1]
        for many in most[1:]:
            if wanted[-1] == len(rounds) or many <= wanted[-1]:
                break
            wanted.append(many)
        self.same(reached(rounds, room=room), tuple(wanted))

    def check_plan(self, rounds, room, told, many):
        word, some = told
        self.same(word, "plan")
        self.assertIs(type(some), tuple)
        self.same(list(some), sorted(set(some)))
        for at in some:
            self.assertIs(type(at), int)
            self.assertIn(at, range(len(rounds)))
        self.same(len(some), many)
        steps = passes(rounds, some, room=room)
        self.same(len(steps), len(rounds))
        self.assertLessEqual(max(steps, default=0), room)

    def test_none(self):
        for room in (0, 1, 28):
            self.same(fewest((), room=room), ("plan", ()))
            self.same(reached((), room=room), (0,))
        self.same(fewest(()), ("plan", ()))
        self.same(reached(()), (0,))

    def test_one(self):
        self.same(fewest(((28, 9),)), ("plan", ()))
        self.same(reached(((28, 9),)), (1,))
        self.same(fewest(((29, 0),)), ("never", 0))
        self.same(reached(((29, 0),)), (0,))
        self.same(fewest(((0, 5),), room=0), ("plan", ()))
        self.same(fewest(((1, 0),), room=0), ("never", 0))

    def test_never(self):
        self.same(fewest(((5, 0), (5, 0), (11, 0), (5, 0)), room=10), ("never", 2))
        self.same(reached(((5, 0), (5, 0), (11, 0), (5, 0)), room=10), (2,))
        # The lag leaves too much ahead of the third one, but the second freezing was of use.
        rounds = ((6, 0), (6, 2), (3, 8), (1, 9), (1, 8))
        self.same(fewest(rounds, room=8), ("never", 2))
        self.same(reached(rounds, room=8), (1, 2))

    def test_all_but_the_last_are_needless(self):
        rounds = ((5, 0), (5, 4), (5, 0), (5, 9))
        self.same(fewest(rounds, room=10), ("plan", (2,)))
        self.same(reached(rounds, room=10), (2, 4))

    def test_one_ahead_of_need_goes_farther(self):
        # Ahead of the third round, where it's needed first, freezing leaves much; ahead of the second one little.
        rounds = ((4, 0), (2, 0), (3, 7), (3, 7))
        self.same(fewest(rounds, room=8), ("plan", (1,)))
        self.same(reached(rounds, room=8), (2, 4))

    def test_takes_of_nought(self):
        self.same(fewest(((0, 0),) * 9, room=0), ("plan", ()))
        self.same(reached(((0, 0),) * 9, room=0), (9,))
        self.same(fewest(((3, 0), (0, 0), (3, 0), (0, 9)), room=3)[0], "plan")
        self.same(reached(((3, 0), (0, 0), (3, 0), (0, 9)), room=3), (2, 4))

    def test_room_left_out(self):
        rounds = ((20, 8), (9, 0), (20, 9))
        self.same(fewest(rounds), fewest(rounds, room=28))
        self.same(reached(rounds), reached(rounds, room=28))
        self.same(fewest(((28, 0), (1, 28))), ("never", 1))
        self.same(fewest(((28, 0), (1, 27))), ("plan", (1,)))

    def test_against_all_choices(self):
        chance = random.Random(8)
        kinds = set()
        for _ in range(1200):
            many = chance.randint(0, 7)
            rounds = some_rounds(chance, many, chance.choice((1, 3, 6)), chance.choice((0, 2, 5, 9)))
            room = chance.choice((0, 1, 3, 4, 5, 6, 7, 9, 12))
            self.check(rounds, room)
            told = fewest(rounds, room=room)
            kinds.add((told[0], len(told[1]) if told[0] == "plan" else told[1]))
        for kind in [("plan", many) for many in range(4)] + [("never", at) for at in range(6)]:
            self.assertIn(kind, kinds)

    def test_all_short_ones(self):
        for many in range(4):
            for rounds in itertools.product(itertools.product(range(3), range(3)), repeat=many):
                for room in range(4):
                    self.check(rounds, room)

    def own_table(self, rounds, room):
        """How many rounds are passed with so many freezings, by the least steps that each round can have."""
        least = [{0: 0}]
        for takes, lag in rounds:
            now = {}
            for many, steps in least[-1].items():
                for more, left in ((0, steps), (1, min(steps, lag))):
                    if left + takes <= room:
                        now[many + more] = min(now.get(many + more, left + takes), left + takes)
            least.append(now)
        return [max(at for at, row in enumerate(least) if any(few <= many for few in row))
                for many in range(len(rounds) + 1)]

    def test_sixty_rounds(self):
        chance = random.Random(60)
        spent, plans_met = 0, set()
        for _ in range(60):
            rounds = some_rounds(chance, 60, chance.choice((2, 9, 14)), chance.choice((0, 12, 20)))
            room = chance.choice((28, 20, 16, 40))
            began = time.monotonic()
            told, most = fewest(rounds, room=room), reached(rounds, room=room)
            spent += time.monotonic() - began
            wanted = self.own_table(rounds, room)
            for many, one in enumerate(most):
                self.same(one, wanted[many])
            if told[0] == "never":
                self.same(told, ("never", wanted[-1]))
                self.same(most[-1], wanted[-1])
                self.assertNotIn(most[-1], most[:-1])
            else:
                self.check_plan(rounds, room, told, wanted.index(60))
                self.same((len(most) - 1, most[-1]), (len(told[1]), 60))
                plans_met.add(len(told[1]))
        self.assertGreater(len(plans_met), 5)
        self.assertLess(spent, 10)


if __name__ == "__main__":
    unittest.main()
