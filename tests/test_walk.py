import copy
import inspect
import random
import unittest

from helper import KEYS, NAMES, SIZES, Case, Endless, Odd, Refused, Run, no_wholes, no_words, no_worths, script
from roundstore import walk as walk_module
from roundstore.errors import Late, NoDeed, NoHouse, NoName, NoRow, NoStore, NoTable, Stopped, Taken, Waits
from roundstore.store import Store
from roundstore.walk import Walk

FAR = 10 ** 9


def endless(*tables):
    """The tests' own store by endless numbers, which never stops."""
    return Endless(tables, FAR, FAR, FAR, 0)


def kept(*pairs):
    """A walk with rows that are done."""
    walk = Walk(("other", "rows"))
    walk.begin("maker")
    for key, worth in pairs:
        walk.put("maker", "rows", key, worth)
    walk.done("maker")
    return walk


def told_by(walk):
    """All rows that whoever looks sees, by any name that the tests give."""
    found = []
    for name in ("maker", "house", "far", "near", "like", "late", "bert", "zoe") + NAMES:
        for table in ("one", "other", "rows", "two", "zoo"):
            try:
                found.append((name, table, walk.rows(name, table)))
            except (NoName, NoTable) as error:
                found.append((name, table, type(error)))
    return found


def next_of(walk):
    """The number that would be given next, by a copy that is asked for it."""
    other = copy.deepcopy(walk)
    other.begin("asker")
    return [other.put("asker", table, "asker", 1) for table in other.shelves][0]


class Told(Case):
    def refused(self, wanted, value, walk, ask, *handed, **named):
        ahead, coming = told_by(walk), next_of(walk)
        for _ in range(2):
            with self.assertRaises(wanted) as held:
                ask(*handed, **named)
            self.assertIs(type(held.exception), wanted)
            self.check_value(held.exception, value)
            self.assertEqual(told_by(walk), ahead)
        self.assertEqual(next_of(walk), coming)


class Interface(Case):
    def test_arguments(self):
        told = {
            "__init__": ("tables",), "begin": ("name",), "put": ("name", "table", "key", "worth"),
            "cut": ("name", "table", "key"), "done": ("name",), "fell": ("name",), "let": ("name",),
            "rows": ("name", "table"),
        }
        self.assertEqual(Walk.__module__, walk_module.__name__)
        for name, places in told.items():
            arguments = inspect.signature(vars(Walk)[name]).parameters
            self.assertEqual(tuple(arguments)[1:], places, name)
            for one in arguments.values():
                self.assertEqual((one.kind, one.default), (one.POSITIONAL_OR_KEYWORD, one.empty))

    def test_like_by_name_alone(self):
        arguments = inspect.signature(vars(Walk)["hold"]).parameters
        self.assertEqual(tuple(arguments)[1:], ("name", "like"))
        self.assertEqual((arguments["like"].kind, arguments["like"].default), (inspect.Parameter.KEYWORD_ONLY, None))
        walk = kept()
        walk.begin("anna")
        self.assertRaises(TypeError, walk.hold, "far", "anna")


class Made(Case):
    def test_tables(self):
        for tables in (("a",), ("a", "aa", "b"), tuple("abcdef")):
            walk = Walk(tables)
            walk.begin("anna")
            for table in tables:
                self.same(walk.rows("anna", table), ())

    def test_no_store(self):
        things = [(), ("b", "a"), ("a", "a"), ("a", 1), ["a"], "a", ("A",), ("",), ("abcdefghi",), (["a"],), 0, 8]
        things += [thing for thing in no_wholes() if not (type(thing) is tuple and thing in (("a",), ("a", "b")))]
        things += [("a", thing) for thing in no_words()]
        for thing in things:
            with self.assertRaises(NoStore) as held:
                Walk(thing)
            self.assertIs(type(held.exception), NoStore)


class Writing(Told):
    def test_numbers_from_nought_at_the_first_writing(self):
        walk = Walk(("rows",))
        for name in ("anna", "bert", "carl"):
            self.assertIsNone(walk.begin(name))
        self.same(walk.put("carl", "rows", "c", 1), 0)
        self.same(walk.put("anna", "rows", "a", 1), 1)
        self.same(walk.put("carl", "rows", "d", 1), 0)
        self.same(walk.cut("anna", "rows", "a"), 1)
        self.assertIsNone(walk.done("bert"))
        self.assertIsNone(walk.fell("anna"))
        walk.done("carl")
        walk.begin("bert")
        self.same(walk.cut("bert", "rows", "c"), 2)

    def test_numbers_never_go_round_nor_stop(self):
        walk = Walk(("rows",))
        walk.hold("far")
        walk.begin("late")
        for number in range(300):
            walk.begin("anna")
            self.same(walk.put("anna", "rows", "k", number), number)
            walk.done("anna")
        self.same(walk.rows("far", "rows"), ())
        self.same(walk.rows("late", "rows"), ())
        self.same(walk.put("late", "rows", "x", 1), 300)
        walk.hold("near")
        self.same(walk.rows("near", "rows"), (("k", 299),))

    def test_rows_of_each_look(self):
        walk = kept(("k", 1), ("x", "word"), ("aa", -5))
        walk.begin("anna")
        walk.begin("bert")
        walk.put("anna", "rows", "k", 2)
        walk.cut("anna", "rows", "x")
        self.same(walk.rows("anna", "rows"), (("aa", -5), ("k", 2)))
        self.same(walk.rows("bert", "rows"), (("aa", -5), ("k", 1), ("x", "word")))
        self.same(walk.rows("anna", "other"), ())
        walk.done("anna")
        self.same(walk.rows("bert", "rows"), (("aa", -5), ("k", 1), ("x", "word")))
        walk.begin("carl")
        self.same(walk.rows("carl", "rows"), (("aa", -5), ("k", 2)))

    def test_fallen_are_seen_by_none(self):
        walk = kept(("k", 1))
        walk.begin("anna")
        walk.put("anna", "rows", "k", 2)
        walk.put("anna", "rows", "k", 3)
        walk.cut("anna", "rows", "k")
        walk.fell("anna")
        walk.begin("bert")
        self.same(walk.rows("bert", "rows"), (("k", 1),))
        self.same(walk.cut("bert", "rows", "k"), 2)
        walk.done("bert")
        walk.begin("carl")
        self.same(walk.rows("carl", "rows"), ())
        self.refused(NoRow, "k", walk, walk.cut, "carl", "rows", "k")
        self.same(walk.put("carl", "rows", "k", 5), 3)

    def test_taken(self):
        walk = kept()
        walk.begin("anna")
        walk.hold("house")
        for name in ["anna", "house", *no_words()]:
            self.refused(Taken, name, walk, walk.begin, name)
            self.refused(Taken, name, walk, walk.hold, name)
            self.refused(Taken, name, walk, walk.hold, name, like="nobody")
        walk.done("anna")
        walk.let("house")
        walk.hold("anna")
        walk.begin("house")

    def test_no_deed(self):
        walk = kept(("a", 1))
        walk.begin("anna")
        walk.hold("house")
        for name in ["maker", "nobody", "house", *no_words()]:
            self.refused(NoDeed, name, walk, walk.put, name, "rows", "k", 1)
            self.refused(NoDeed, name, walk, walk.cut, name, "rows", "a")
            self.refused(NoDeed, name, walk, walk.done, name)
            self.refused(NoDeed, name, walk, walk.fell, name)

    def test_no_table(self):
        walk = kept(("a", 1))
        walk.begin("anna")
        walk.hold("house")
        for table in ["row", "anna", "a", *no_words()]:
            self.refused(NoTable, table, walk, walk.put, "anna", table, "k", 1)
            self.refused(NoTable, table, walk, walk.cut, "anna", table, "a")
            self.refused(NoTable, table, walk, walk.rows, "anna", table)
            self.refused(NoTable, table, walk, walk.rows, "house", table)

    def test_no_row(self):
        walk = kept(("a", 1))
        walk.begin("anna")
        for key in no_words():
            self.refused(NoRow, key, walk, walk.put, "anna", "rows", key, 1)
            self.refused(NoRow, key, walk, walk.cut, "anna", "rows", key)
        for worth in no_worths():
            self.refused(NoRow, "a", walk, walk.put, "anna", "rows", "a", worth)
        self.refused(NoRow, "b", walk, walk.cut, "anna", "rows", "b")
        self.refused(NoRow, "a", walk, walk.cut, "anna", "other", "a")

    def test_the_first_refusal_goes(self):
        walk = kept(("a", 1))
        for name in ("anna", "bert", "carl"):
            walk.begin(name)
        walk.put("bert", "rows", "a", 2)
        for bad in (None, "", 0, [], Odd()):
            self.refused(NoDeed, bad, walk, walk.put, bad, bad, bad, bad)
            self.refused(NoTable, bad, walk, walk.put, "anna", bad, bad, bad)
            self.refused(NoRow, bad, walk, walk.put, "anna", "rows", bad, bad)
            self.refused(NoDeed, bad, walk, walk.cut, bad, bad, bad)
            self.refused(NoTable, bad, walk, walk.cut, "anna", bad, bad)
            self.refused(NoName, bad, walk, walk.rows, bad, bad)
        self.refused(NoRow, "a", walk, walk.put, "anna", "rows", "a", None)
        self.refused(Waits, "bert", walk, walk.put, "anna", "rows", "a", 3)

    def test_waits_and_late(self):
        walk = kept(("k", 1))
        walk.begin("late")
        walk.begin("anna")
        walk.put("anna", "rows", "k", 2)
        self.refused(Waits, "anna", walk, walk.put, "late", "rows", "k", 9)
        self.refused(Waits, "anna", walk, walk.cut, "late", "rows", "k")
        walk.done("anna")
        self.refused(Late, "k", walk, walk.put, "late", "rows", "k", 9)
        self.refused(Late, "k", walk, walk.cut, "late", "rows", "k")
        walk.begin("bert")
        walk.cut("bert", "rows", "k")
        self.refused(Waits, "bert", walk, walk.put, "late", "rows", "k", 9)
        walk.fell("bert")
        self.refused(Late, "k", walk, walk.put, "late", "rows", "k", 9)
        walk.begin("carl")
        self.same(walk.cut("carl", "rows", "k"), 3)

    def test_late_by_one_that_was_open(self):
        walk = Walk(("rows",))
        walk.begin("anna")
        walk.put("anna", "rows", "k", 1)
        walk.begin("bert")
        walk.done("anna")
        self.same(walk.rows("bert", "rows"), ())
        self.refused(Late, "k", walk, walk.put, "bert", "rows", "k", 2)
        self.refused(Late, "k", walk, walk.cut, "bert", "rows", "k")


class Houses(Told):
    def test_hold_as_of_now(self):
        walk = kept(("a", 1))
        walk.begin("anna")
        walk.put("anna", "rows", "a", 2)
        self.assertIsNone(walk.hold("far"))
        walk.done("anna")
        walk.hold("near", like=None)
        self.same(walk.rows("far", "rows"), (("a", 1),))
        self.same(walk.rows("near", "rows"), (("a", 2),))
        self.assertIsNone(walk.let("far"))
        self.refused(NoName, "far", walk, walk.rows, "far", "rows")

    def test_hold_like_another(self):
        walk = kept(("a", 1))
        walk.begin("anna")
        walk.put("anna", "rows", "a", 2)
        walk.hold("like", like="anna")
        self.same(walk.rows("like", "rows"), (("a", 1),))
        walk.done("anna")
        walk.hold("far", like="like")
        walk.let("like")
        self.same(walk.rows("far", "rows"), (("a", 1),))

    def test_no_name(self):
        walk = kept(("a", 1))
        walk.begin("anna")
        for name in ["maker", "nobody", "new", *no_words()]:
            self.refused(NoName, name, walk, walk.rows, name, "rows")
            self.refused(NoName, name, walk, walk.rows, name, None)
            if name is not None:
                self.refused(NoName, name, walk, walk.hold, "new", like=name)

    def test_no_house(self):
        walk = kept(("a", 1))
        walk.begin("anna")
        walk.hold("far")
        for name in ["anna", "maker", "nobody", *no_words()]:
            self.refused(NoHouse, name, walk, walk.let, name)


class Beside(Case):
    """Random runs beside the tests' own store by endless numbers, and beside a Store."""

    def told(self, ask, *handed):
        try:
            return "told", ask(*handed)
        except Refused as error:
            return error.kind, error.value
        except (LookupError, RuntimeError, OverflowError) as error:
            return type(error).__name__, list(vars(error).values())[0]

    def ask(self, walk, door, handed):
        if door == "hold":
            return walk.hold(handed[0], like=handed[1])
        return getattr(walk, door)(*handed)

    def test_beside_the_tests_own(self):
        met = {}
        for seed in range(40):
            tables = ("one", "two", "zoo")[:1 + seed % 3]
            chance, walk, twin = random.Random(seed), Walk(tables), endless(*tables)
            for at in range(400):
                name, table, key = chance.choice(NAMES), chance.choice(tables), chance.choice(KEYS)
                door, handed = chance.choice((
                    ("begin", (name,)), ("begin", (name,)), ("put", (name, table, key, at)),
                    ("put", (name, table, key, -at)), ("put", (name, table, key, "word")), ("cut", (name, table, key)),
                    ("done", (name,)), ("done", (name,)), ("fell", (name,)), ("let", (name,)),
                    ("hold", (name, chance.choice((None,) + NAMES))),
                ))
                wanted = self.told(getattr(twin, door), *handed)
                self.same(self.told(self.ask, walk, door, handed), wanted)
                met[door, wanted[0]] = met.get((door, wanted[0]), 0) + 1
                for other in twin.lookers:
                    for one in tables:
                        self.same(walk.rows(other, one), twin.rows(other, one))
        for outcome in (
            ("begin", "Taken"), ("put", "NoDeed"), ("put", "Waits"), ("put", "Late"), ("put", "told"),
            ("cut", "NoRow"), ("cut", "Waits"), ("cut", "Late"), ("cut", "told"), ("done", "NoDeed"),
            ("fell", "NoDeed"), ("hold", "Taken"), ("hold", "NoName"), ("hold", "told"), ("let", "NoHouse"),
        ):
            self.assertGreater(met.get(outcome, 0), 20, outcome)

    def alike(self, store, walk):
        for name, *_ in store.lookers():
            for table in store.tables:
                self.same(walk.rows(name, table), store.rows(name, table))

    def test_beside_a_store_that_stops(self):
        """What the store alone refuses, as it has no room, isn't done to the walk: all else is alike."""
        stopped = 0
        for seed in range(24):
            size = SIZES[seed % len(SIZES)]
            tables = ("one", "two", "zoo")[:1 + seed % 3]
            run, walk = Run(seed, tables, size, seed % size[0]), Walk(tables)
            for _ in range(400):
                door, handed = run.pick()
                run.told(getattr(run.twin, door), *handed)
                wanted = run.told(run.ask_store, door, handed)
                if wanted[0] == "Stopped":
                    stopped += 1
                elif door != "freeze":
                    told = self.told(self.ask, walk, door, handed)
                    if wanted[0] == "told" and door in ("put", "cut"):
                        self.same(((told[1] + seed % size[0]) % size[0]), wanted[1])
                        self.same(told[1], run.twin.lookers[handed[0]]["number"] - seed % size[0])
                    else:
                        self.same(told, wanted)
                self.alike(run.store, walk)
        self.assertGreater(stopped, 100)

    def test_beside_stores_that_dont_stop(self):
        for seed in range(5):
            things = script(seed, 150)
            rings = ((14, 13), (16, 0), (64, 50), (2 ** 20, 2 ** 20 - 4))
            stores = [Store(("one", "two"), ring=ring, stop=ring // 2 - 1, warn=1, first=first)
                      for ring, first in rings]
            walk = Walk(("one", "two"))
            for door, *handed in things:
                wanted = None if door == "freeze" else self.told(getattr(walk, door), *handed)
                for store in stores:
                    told = self.told(getattr(store, door), *handed)
                    self.assertNotEqual(told[0], "Stopped")
                    if wanted is not None and door in ("put", "cut") and told[0] == "told":
                        self.same(told[1], (wanted[1] + store.first) % store.ring)
                    elif wanted is not None:
                        self.same(told, wanted)
                    self.alike(store, walk)

    def test_never_stopped(self):
        walk = Walk(("rows",))
        for number in range(2000):
            name = "d" + "".join(chr(97 + int(figure)) for figure in str(number))
            walk.begin(name)
            try:
                self.same(walk.put(name, "rows", name, number), number)
            except Stopped:
                self.fail()
        self.same(walk.rows("da", "rows"), (("da", 0),))


if __name__ == "__main__":
    unittest.main()
