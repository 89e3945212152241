import inspect
import unittest

from helper import Case, Odd, Whatever, face, no_wholes, no_words, no_worths, small
from roundstore import store as store_module
from roundstore.errors import Busy, Late, NoDeed, NoName, NoRow, NoStore, NoTable, Stopped, Taken, Waits
from roundstore.store import Store


def kept(*pairs):
    """A store with rows that are done."""
    store = small("other", "rows")
    store.begin("maker")
    for key, worth in pairs:
        store.put("maker", "rows", key, worth)
    store.done("maker")
    return store


class Interface(Case):
    def test_arguments(self):
        told = {
            "begin": ("name",), "put": ("name", "table", "key", "worth"), "cut": ("name", "table", "key"),
            "done": ("name",), "fell": ("name",), "work": ("name", "each"), "rows": ("name", "table"),
            "why": ("name", "table", "key"), "versions": ("table",), "fates": (), "lookers": (), "next": (),
            "holders": (), "horizon": (), "floor": (), "room": (), "eldest_of": ("table",), "warned": (),
            "let": ("name",),
        }
        for name, places in told.items():
            arguments = inspect.signature(vars(Store)[name]).parameters
            self.assertEqual(tuple(arguments)[1:], places, name)
            for one in arguments.values():
                self.assertEqual((one.kind, one.default), (one.POSITIONAL_OR_KEYWORD, one.empty))

    def test_arguments_by_name_alone(self):
        told = {
            "__init__": (("tables",), {"ring": 64, "stop": 28, "warn": 20, "first": 0}),
            "freeze": (("table",), {"upto": None, "most": None, "each": None}),
            "hold": (("name",), {"like": None}),
        }
        for name, (places, named) in told.items():
            arguments = inspect.signature(vars(Store)[name]).parameters
            self.assertEqual(tuple(arguments)[1:], places + tuple(named), name)
            for one, default in named.items():
                self.assertEqual(arguments[one].kind, inspect.Parameter.KEYWORD_ONLY)
                self.assertEqual(arguments[one].default, default)

    def test_defined_in_the_class_itself(self):
        self.assertEqual(Store.__module__, store_module.__name__)
        self.assertEqual(Store.__bases__, (object,))
        for name in ("__str__", "__len__", "__repr__", "__eq__"):
            self.assertIn(name, vars(Store))


class Made(Case):
    def test_new_store(self):
        store = Store(("a", "b"))
        self.same(face(store), (
            "", "Store(0)", 0, (), (), 0, 0, 0, 28, False, (("table", "a"), ("table", "b")),
            (("a", (), 0), ("b", (), 0)), (),
        ))

    def test_first(self):
        for first in (0, 1, 8, 14, 15):
            store = small(first=first)
            self.whole(store.next(), first)
            self.whole(store.floor(), first)
            self.whole(store.horizon(), first)
            self.whole(store.eldest_of("rows"), first)
            self.whole(store.room(), 7)
            store.begin("anna")
            self.whole(store.put("anna", "rows", "k", 1), first)
            self.whole(store.next(), (first + 1) % 16)

    def no_store(self, *handed, **named):
        with self.assertRaises(NoStore) as held:
            Store(*handed, **named)
        self.assertIs(type(held.exception), NoStore)

    def test_tables(self):
        for tables in (("a",), ("z",), ("abcdefgh",), ("a", "aa", "ab", "b"), tuple("abcdef")):
            self.assertEqual(Store(tables).holders(), tuple(("table", one) for one in tables))
        for tables in (
            (), ("b", "a"), ("a", "a"), ("a", "b", "b"), ("a", "c", "b"), ("abcdefghi",), ("",), ("A",), ("a", "B"),
            ("a", 1), (1,), (("a",),), ["a"], "a", "ab", {"a": 1}, {"a"}, (["a"],), ("a", None), ("a b",), ("a\n",),
        ):
            self.no_store(tables)

    def test_tables_of_anything(self):
        for thing in no_wholes() + [0, 1, 8]:
            if isinstance(thing, tuple) and thing in (("a",), ("a", "b")):
                continue
            self.no_store(thing)
        for thing in no_words():
            self.no_store((thing,))
            self.no_store(("a", thing))
            self.no_store((thing, "zz"))

    def test_ring(self):
        for ring in (8, 10, 12, 58, 64, 2 ** 20):
            Store(("a",), ring=ring, stop=3, warn=1)
            self.no_store(("a",), ring=ring + 1, stop=3, warn=1)
            self.no_store(("a",), ring=-ring, stop=3, warn=1)
        for ring in (0, 1, 2, 4, 6, 7, 9):
            self.no_store(("a",), ring=ring, stop=1, warn=1)
        self.no_store(("a",), ring=56)
        Store(("a",), ring=58)

    def test_stop_and_warn(self):
        for ring in (8, 10, 64):
            half = ring // 2
            for stop in range(-1, half + 2):
                for warn in range(-1, half + 2):
                    if 1 <= warn <= stop < half:
                        self.whole(Store(("a",), ring=ring, stop=stop, warn=warn).room(), stop)
                    else:
                        self.no_store(("a",), ring=ring, stop=stop, warn=warn)
        self.no_store(("a",), ring=40)
        self.no_store(("a",), stop=19)
        self.no_store(("a",), warn=29)
        Store(("a",), stop=31)
        self.no_store(("a",), stop=32)

    def test_first_of_the_ring(self):
        for ring in (8, 64):
            for first in (-1, -ring, ring, ring + 1, 10 ** 18 - 1):
                self.no_store(("a",), ring=ring, stop=3, warn=1, first=first)
            Store(("a",), ring=ring, stop=3, warn=1, first=ring - 1)

    def test_numbers_of_anything(self):
        for thing in no_wholes():
            for name in ("ring", "stop", "warn", "first"):
                self.no_store(("a",), **{"ring": 8, "stop": 3, "warn": 1, "first": 0, name: thing})
        self.no_store(("a",), ring=8, stop=3, warn=True)
        self.no_store(("a",), ring=8, stop=True, warn=1)
        self.no_store(("a",), first=False)
        self.no_store(None, ring=None, stop=None, warn=None, first=None)


class Begin(Case):
    def test_a_deed_looks(self):
        store = small()
        self.assertIsNone(store.begin("anna"))
        self.same(store.lookers(), (("anna", "deed", (0, ()), None),))
        store.begin("abcdefgh")
        store.begin("z")
        self.same([one[0] for one in store.lookers()], ["abcdefgh", "anna", "z"])

    def test_look_has_the_numbers_that_are_open(self):
        store = small(first=14)
        for name in ("anna", "bert", "carl", "dora", "emil"):
            store.begin(name)
        for name in ("carl", "anna", "emil", "dora"):
            store.put(name, "rows", name, 1)
        store.done("dora")
        store.begin("late")
        # Bert is open, but has no number; dora has one, but is done.
        self.same(store.lookers()[-1], ("late", "deed", (2, (14, 15, 0)), None))
        store.fell("anna")
        store.put("bert", "rows", "bert", 1)
        store.begin("later")
        self.same(store.lookers()[-1], ("later", "deed", (3, (14, 0, 2)), None))

    def test_look_stays_as_it_was_taken(self):
        store = small()
        store.begin("anna")
        store.put("anna", "rows", "k", 1)
        store.begin("bert")
        wanted = ("bert", "deed", (1, (0,)), None)
        self.same(store.lookers()[1], wanted)
        store.done("anna")
        self.same(store.lookers(), (wanted,))
        store.put("bert", "rows", "x", 1)
        self.same(store.lookers(), (("bert", "deed", (1, (0,)), 1),))

    def test_taken(self):
        store = small()
        store.begin("anna")
        store.hold("house")
        self.refused(Taken, "anna", store, store.begin, "anna")
        self.refused(Taken, "house", store, store.begin, "house")
        store.done("anna")
        store.let("house")
        store.begin("house")
        store.begin("anna")
        self.refused(Taken, "anna", store, store.begin, "anna")

    def test_taken_of_anything(self):
        store = small()
        for thing in no_words():
            self.refused(Taken, thing, store, store.begin, thing)
            self.refused(Taken, thing, store, store.work, thing, self.fail)


class PutAndCut(Case):
    def test_put(self):
        store = small()
        store.begin("anna")
        self.same(store.put("anna", "rows", "k", 1), 0)
        self.same(store.put("anna", "rows", "x", "word"), 0)
        self.same(store.versions("rows"), (("k", 1, 0, None), ("x", "word", 0, None)))
        self.same(store.rows("anna", "rows"), (("k", 1), ("x", "word")))
        store.done("anna")
        store.begin("bert")
        self.same(store.put("bert", "rows", "k", -2), 1)
        self.same(store.versions("rows"), (("k", 1, 0, 1), ("x", "word", 0, None), ("k", -2, 1, None)))

    def test_put_what_it_has_put(self):
        store = small()
        store.begin("anna")
        store.put("anna", "rows", "k", 1)
        store.put("anna", "rows", "k", 2)
        self.same(store.versions("rows"), (("k", 1, 0, 0), ("k", 2, 0, None)))
        self.same(store.rows("anna", "rows"), (("k", 2),))

    def test_cut(self):
        store = kept(("a", 1), ("b", 2))
        store.begin("anna")
        self.same(store.cut("anna", "rows", "a"), 1)
        self.same(store.versions("rows"), (("a", 1, 0, 1), ("b", 2, 0, None)))
        self.same(store.rows("anna", "rows"), (("b", 2),))
        self.refused(NoRow, "a", store, store.cut, "anna", "rows", "a")
        self.same(store.put("anna", "rows", "a", 3), 1)
        self.same(store.cut("anna", "rows", "a"), 1)
        self.same(store.versions("rows"), (("a", 1, 0, 1), ("b", 2, 0, None), ("a", 3, 1, 1)))

    def test_number_at_the_first_writing(self):
        store = small()
        for name in ("anna", "bert", "carl"):
            store.begin(name)
        self.same(store.fates(), ())
        self.same(store.put("carl", "rows", "c", 1), 0)
        self.same(store.put("anna", "rows", "a", 1), 1)
        self.same(store.put("carl", "rows", "d", 1), 0)
        store.done("bert")
        self.same(store.fates(), ((0, "open"), (1, "open")))
        self.same(store.next(), 2)

    def test_numbers_go_round(self):
        store = small(first=15)
        for number in (15, 0, 1):
            store.begin("anna")
            self.same(store.put("anna", "rows", "k", number), number)
            store.done("anna")
        self.same(store.versions("rows"), (("k", 15, 15, 0), ("k", 0, 0, 1), ("k", 1, 1, None)))

    def test_refused_writing_gives_no_number(self):
        store = kept(("a", 1))
        store.begin("anna")
        self.refused(NoRow, "zz", store, store.cut, "anna", "rows", "zz")
        self.refused(NoRow, 5, store, store.put, "anna", "rows", 5, 1)
        self.same(store.lookers()[0][3], None)
        self.same(store.next(), 1)

    def test_worths(self):
        store = small()
        store.begin("anna")
        for at, worth in enumerate((0, -1, 10 ** 18 - 1, 1 - 10 ** 18, "a", "abcdefgh", "none")):
            store.put("anna", "rows", "k", worth)
            self.same(store.versions("rows")[at], ("k", worth, 0, None))
            self.same(store.rows("anna", "rows"), (("k", worth),))

    def test_tables_are_apart(self):
        store = small("one", "two")
        store.begin("anna")
        store.put("anna", "one", "k", 1)
        store.begin("bert")
        self.same(store.put("bert", "two", "k", 2), 1)
        self.refused(NoRow, "x", store, store.cut, "bert", "one", "x")
        self.same(store.versions("one"), (("k", 1, 0, None),))
        self.same(store.versions("two"), (("k", 2, 1, None),))

    def test_no_deed(self):
        store = kept(("a", 1))
        store.begin("anna")
        store.hold("house")
        for name in ["maker", "nobody", "house", *no_words()]:
            self.refused(NoDeed, name, store, store.put, name, "rows", "k", 1)
            self.refused(NoDeed, name, store, store.cut, name, "rows", "a")
            self.refused(NoDeed, name, store, store.done, name)
            self.refused(NoDeed, name, store, store.fell, name)

    def test_no_table(self):
        store = kept(("a", 1))
        store.begin("anna")
        for table in ["row", "rowss", "anna", "a", *no_words()]:
            self.refused(NoTable, table, store, store.put, "anna", table, "k", 1)
            self.refused(NoTable, table, store, store.cut, "anna", table, "a")

    def test_no_row(self):
        store = kept(("a", 1))
        store.begin("anna")
        for key in no_words():
            self.refused(NoRow, key, store, store.put, "anna", "rows", key, 1)
            self.refused(NoRow, key, store, store.cut, "anna", "rows", key)
        for worth in no_worths():
            self.refused(NoRow, "a", store, store.put, "anna", "rows", "a", worth)
        self.refused(NoRow, "b", store, store.cut, "anna", "rows", "b")

    def test_the_first_refusal_goes(self):
        store = kept(("a", 1))
        for name in ("anna", "bert", "carl"):
            store.begin(name)
        store.put("bert", "rows", "a", 2)
        for bad in (None, "", 0, [], Odd()):
            self.refused(NoDeed, bad, store, store.put, bad, bad, bad, bad)
            self.refused(NoTable, bad, store, store.put, "anna", bad, bad, bad)
            self.refused(NoRow, bad, store, store.put, "anna", "rows", bad, bad)
            self.refused(NoDeed, bad, store, store.cut, bad, bad, bad)
            self.refused(NoTable, bad, store, store.cut, "anna", bad, bad)
        # No worth, though the key is bert's now.
        self.refused(NoRow, "a", store, store.put, "anna", "rows", "a", None)
        self.refused(Waits, "bert", store, store.put, "anna", "rows", "a", 3)


class Waiting(Case):
    def test_waits_by_a_maker(self):
        store = small()
        store.begin("anna")
        store.begin("bert")
        store.put("anna", "rows", "k", 1)
        self.refused(Waits, "anna", store, store.put, "bert", "rows", "k", 2)
        self.refused(Waits, "anna", store, store.cut, "bert", "rows", "k")

    def test_waits_by_an_ender(self):
        store = kept(("k", 1))
        store.begin("anna")
        store.begin("bert")
        store.cut("anna", "rows", "k")
        self.refused(Waits, "anna", store, store.put, "bert", "rows", "k", 2)
        self.refused(Waits, "anna", store, store.cut, "bert", "rows", "k")

    def test_not_by_its_own(self):
        store = kept(("k", 1))
        store.begin("anna")
        store.begin("bert")
        store.put("bert", "rows", "other", 2)
        for worth in range(3):
            self.same(store.put("anna", "rows", "k", worth), 2)
        store.cut("anna", "rows", "k")
        store.put("anna", "rows", "k", 5)

    def test_other_keys_and_tables_go_on(self):
        store = small("one", "two")
        store.begin("anna")
        store.begin("bert")
        store.put("anna", "one", "k", 1)
        store.put("bert", "one", "kk", 1)
        store.put("bert", "two", "k", 1)

    def test_not_where_the_other_fell(self):
        store = kept(("k", 1))
        store.begin("anna")
        store.begin("bert")
        store.put("anna", "rows", "k", 2)
        store.cut("anna", "rows", "k")
        store.fell("anna")
        self.same(store.rows("bert", "rows"), (("k", 1),))
        self.same(store.put("bert", "rows", "k", 3), 2)
        # The ender that fell is no more; what anna made and ended is left alone.
        self.same(store.versions("rows"), (("k", 1, 0, 2), ("k", 2, 1, 1), ("k", 3, 2, None)))

    def test_late_by_a_maker(self):
        store = small()
        for name in ("anna", "bert"):
            store.begin(name)
        store.put("anna", "rows", "k", 1)
        store.done("anna")
        self.refused(Late, "k", store, store.put, "bert", "rows", "k", 2)
        self.refused(Late, "k", store, store.cut, "bert", "rows", "k")

    def test_late_by_an_ender(self):
        store = kept(("k", 1))
        for name in ("anna", "bert"):
            store.begin(name)
        store.cut("anna", "rows", "k")
        store.done("anna")
        self.same(store.rows("bert", "rows"), (("k", 1),))
        self.refused(Late, "k", store, store.put, "bert", "rows", "k", 2)
        self.refused(Late, "k", store, store.cut, "bert", "rows", "k")

    def test_late_by_one_that_was_open(self):
        store = small()
        store.begin("anna")
        store.put("anna", "rows", "k", 1)
        store.begin("bert")
        self.refused(Waits, "anna", store, store.put, "bert", "rows", "k", 2)
        store.done("anna")
        self.refused(Late, "k", store, store.put, "bert", "rows", "k", 2)
        store.fell("bert")
        store.begin("bert")
        self.same(store.put("bert", "rows", "k", 2), 1)

    def test_late_where_its_row_was_made_and_ended_meanwhile(self):
        store = small()
        store.begin("bert")
        store.begin("anna")
        store.put("anna", "rows", "k", 1)
        store.cut("anna", "rows", "k")
        store.done("anna")
        self.refused(Late, "k", store, store.put, "bert", "rows", "k", 2)
        self.refused(Late, "k", store, store.cut, "bert", "rows", "k")

    def test_waits_goes_ahead_of_late(self):
        store = kept(("k", 1))
        store.begin("carl")
        store.begin("anna")
        store.put("anna", "rows", "k", 2)
        store.done("anna")
        self.refused(Late, "k", store, store.put, "carl", "rows", "k", 9)
        store.begin("bert")
        store.put("bert", "rows", "k", 3)
        # The first version has an ender that carl is late for, the second one an ender that is open.
        self.refused(Waits, "bert", store, store.put, "carl", "rows", "k", 9)
        self.refused(Waits, "bert", store, store.cut, "carl", "rows", "k")
        store.fell("bert")
        self.refused(Late, "k", store, store.cut, "carl", "rows", "k")

    def test_three_deeds_on_one_key(self):
        store = kept(("k", 1))
        for name in ("anna", "bert", "carl"):
            store.begin(name)
        store.put("bert", "rows", "k", 2)
        for name in ("anna", "carl"):
            self.refused(Waits, "bert", store, store.put, name, "rows", "k", 3)
        store.fell("bert")
        store.cut("carl", "rows", "k")
        self.refused(Waits, "carl", store, store.cut, "anna", "rows", "k")
        store.done("carl")
        self.refused(Late, "k", store, store.cut, "anna", "rows", "k")
        store.begin("dora")
        self.refused(NoRow, "k", store, store.cut, "dora", "rows", "k")
        self.same(store.put("dora", "rows", "k", 4), 3)
        self.refused(Waits, "dora", store, store.put, "anna", "rows", "k", 5)

    def test_who_waits_is_told_by_the_name_of_now(self):
        store = small()
        store.begin("anna")
        store.put("anna", "rows", "a", 1)
        store.done("anna")
        store.begin("bert")
        store.begin("anna")
        store.put("anna", "rows", "k", 1)
        self.refused(Waits, "anna", store, store.put, "bert", "rows", "k", 2)
        store.put("bert", "rows", "b", 2)
        self.refused(Waits, "bert", store, store.put, "anna", "rows", "b", 2)


class Ending(Case):
    def test_done_and_fell(self):
        store = small()
        for name, end in (("anna", store.done), ("bert", store.fell), ("carl", store.done)):
            store.begin(name)
            if name != "carl":
                store.put(name, "rows", name, 1)
            self.assertIsNone(end(name))
            self.refused(NoDeed, name, store, store.done, name)
            self.refused(NoDeed, name, store, store.fell, name)
            self.refused(NoName, name, store, store.rows, name, "rows")
        self.same(store.fates(), ((0, "done"), (1, "fell")))
        self.same(store.lookers(), ())
        store.begin("dora")
        self.same(store.rows("dora", "rows"), (("anna", 1),))

    def test_fallen_are_seen_by_none(self):
        store = kept(("k", 1))
        store.begin("anna")
        store.put("anna", "rows", "k", 2)
        store.put("anna", "rows", "x", 2)
        store.fell("anna")
        store.begin("bert")
        self.same(store.rows("bert", "rows"), (("k", 1),))


class Work(Case):
    def test_done_behind_it(self):
        store = small()
        handed = []

        def each(name):
            handed.append((name, store.lookers()))
            store.put(name, "rows", "k", 1)
            return ("told", name)

        self.same(store.work("anna", each), ("told", "anna"))
        self.same(handed, [("anna", (("anna", "deed", (0, ()), None),))])
        self.same(store.fates(), ((0, "done"),))
        self.same(store.lookers(), ())
        self.same(str(store), "begin anna\nput anna rows k 1\ndone anna\n")

    def test_tells_what_each_tells(self):
        store = small()
        for told in no_wholes():
            self.assertIs(store.work("anna", lambda name: told), told)
            self.same(store.lookers(), ())

    def test_fell_whatever_goes_out(self):
        for kind in (ValueError, KeyError, Waits, Busy, Stopped, NoDeed, Exception, BaseException, Whatever,
                     KeyboardInterrupt, SystemExit, GeneratorExit, StopIteration, RecursionError, MemoryError):
            store = small()
            error = kind("x") if kind is not Busy else kind()

            def each(name):
                store.put(name, "rows", "k", 1)
                raise error

            with self.assertRaises(kind) as held:
                store.work("anna", each)
            self.assertIs(held.exception, error)
            self.same(store.lookers(), ())
            self.same(store.fates(), ((0, "fell"),))
            self.same(str(store), "begin anna\nput anna rows k 1\nfell anna\n")
            self.refused(NoDeed, "anna", store, store.done, "anna")
            self.refused(NoDeed, "anna", store, store.put, "anna", "rows", "k", 1)
            self.refused(NoName, "anna", store, store.rows, "anna", "rows")
            self.refused(NoName, "anna", store, store.hold, "house", like="anna")
            store.begin("anna")
            self.same(store.put("anna", "rows", "k", 2), 1)

    def test_what_the_store_refuses_goes_out(self):
        store = kept(("k", 1))
        store.begin("anna")
        store.put("anna", "rows", "k", 2)
        with self.assertRaises(Waits) as held:
            store.work("bert", lambda name: store.put(name, "rows", "k", 3))
        self.assertEqual(held.exception.who, "anna")
        self.same([one[0] for one in store.lookers()], ["anna"])
        with self.assertRaises(NoTable):
            store.work("bert", lambda name: (store.put(name, "rows", "x", 3), store.rows(name, "zz")))
        self.same(store.fates(), ((0, "done"), (1, "open"), (2, "fell")))

    def test_what_each_keeps_in_is_no_matter(self):
        store = kept(("k", 1))

        def each(name):
            try:
                store.cut(name, "rows", "zz")
            except NoRow:
                store.cut(name, "rows", "k")

        self.assertIsNone(store.work("anna", each))
        self.same(store.fates(), ((0, "done"), (1, "done")))

    def test_each_ended_it(self):
        for word, end in (("done", Store.done), ("fell", Store.fell)):
            for goes_out in (False, True):
                store = small()

                def each(name):
                    store.put(name, "rows", "k", 1)
                    end(store, name)
                    if goes_out:
                        raise Whatever()
                    return 7

                if goes_out:
                    self.assertRaises(Whatever, store.work, "anna", each)
                else:
                    self.same(store.work("anna", each), 7)
                self.same(store.fates(), ((0, word),))
                self.same(store.lookers(), ())
                self.same(str(store), f"begin anna\nput anna rows k 1\n{word} anna\n")

    def test_another_one_by_its_name_stays(self):
        for goes_out in (False, True):
            for again in ("begin", "hold"):
                store = small()

                def each(name):
                    store.fell(name)
                    getattr(store, again)(name)
                    if goes_out:
                        raise Whatever()

                if goes_out:
                    self.assertRaises(Whatever, store.work, "anna", each)
                else:
                    store.work("anna", each)
                sort = "deed" if again == "begin" else "house"
                self.same(store.lookers(), (("anna", sort, (0, ()), None),))
                self.same(str(store), f"begin anna\nfell anna\n{again} anna\n")

    def test_work_in_a_work(self):
        store = small()

        def inner(name):
            store.put(name, "rows", "b", 1)
            raise Whatever()

        def outer(name):
            store.put(name, "rows", "a", 1)
            try:
                store.work("bert", inner)
            except Whatever:
                pass
            self.refused(Taken, name, store, store.work, name, self.fail)

        store.work("anna", outer)
        self.same(store.fates(), ((0, "done"), (1, "fell")))

    def test_taken(self):
        store = small()
        store.begin("anna")
        store.hold("house")
        self.refused(Taken, "anna", store, store.work, "anna", self.fail)
        self.refused(Taken, "house", store, store.work, "house", self.fail)

    def test_no_end_of_calls(self):
        store = small()
        many = []

        def each(name):
            store.put(name, "rows", "k", len(many))
            many.append(1)
            each(name)

        self.assertRaises(RecursionError, store.work, "anna", each)
        # Wherever the calls came to their end, the log has just what stands.
        self.same(len(store), str(store).count("put "))
        self.same(store.fates(), ((0, "fell"),))
        self.same(str(store).splitlines()[-1], "fell anna")
        store.begin("bert")
        self.same(store.rows("bert", "rows"), ())


class Looking(Case):
    def test_rows_of_each_look(self):
        store = kept(("k", 1), ("x", 1))
        store.begin("anna")
        store.begin("bert")
        store.put("anna", "rows", "k", 2)
        store.cut("anna", "rows", "x")
        self.same(store.rows("anna", "rows"), (("k", 2),))
        self.same(store.rows("bert", "rows"), (("k", 1), ("x", 1)))
        self.same(store.rows("anna", "other"), ())
        store.done("anna")
        self.same(store.rows("bert", "rows"), (("k", 1), ("x", 1)))
        store.begin("carl")
        self.same(store.rows("carl", "rows"), (("k", 2),))

    def test_rows_rising_by_key(self):
        store = kept(("c", 1), ("a", "z"), ("ab", 3), ("b", "a"))
        store.begin("anna")
        self.same(store.rows("anna", "rows"), (("a", "z"), ("ab", 3), ("b", "a"), ("c", 1)))

    def test_why(self):
        store = kept(("k", 1), ("x", 1))
        store.begin("fallen")
        store.put("fallen", "rows", "k", 2)
        store.fell("fallen")
        store.begin("anna")
        store.begin("bert")
        store.put("bert", "rows", "k", 3)
        first = ("k", 1, 0, 2)
        middle = (("k", 2, 1, None), "fell")
        last = ("k", 3, 2, None)
        self.same(store.why("anna", "rows", "k"), ((first, "seen"), middle, (last, "open")))
        self.same(store.why("bert", "rows", "k"), ((first, "cut"), middle, (last, "seen")))
        store.done("bert")
        self.same(store.why("anna", "rows", "k"), ((first, "seen"), middle, (last, "later")))
        self.same(store.why("anna", "rows", "x"), ((("x", 1, 0, None), "seen"),))
        self.same(store.why("anna", "other", "k"), ())
        self.same(store.why("anna", "rows", "zz"), ())

    def test_why_by_a_key_of_anything(self):
        store = kept(("a", 1), ("none", 2))
        store.begin("anna")
        for key in no_words():
            self.same(store.why("anna", "rows", key), ())

    def test_no_name(self):
        store = kept(("k", 1))
        store.begin("anna")
        for name in ["maker", "nobody", "rows", *no_words()]:
            self.refused(NoName, name, store, store.rows, name, "rows")
            self.refused(NoName, name, store, store.why, name, "rows", "k")
            self.refused(NoName, name, store, store.rows, name, None)
            self.refused(NoName, name, store, store.why, name, None, None)

    def test_no_table(self):
        store = kept(("k", 1))
        store.begin("anna")
        store.hold("house")
        for table in ["row", "anna", "k", *no_words()]:
            for name in ("anna", "house"):
                self.refused(NoTable, table, store, store.rows, name, table)
                self.refused(NoTable, table, store, store.why, name, table, "k")
            self.refused(NoTable, table, store, store.why, "anna", table, None)
            self.refused(NoTable, table, store, store.versions, table)
            self.refused(NoTable, table, store, store.eldest_of, table)

    def test_what_is_told_stays(self):
        store = kept(("k", 1))
        store.begin("anna")
        told = (store.versions("rows"), store.lookers(), store.fates(), store.rows("anna", "rows"))
        again = repr(told)
        store.put("anna", "rows", "k", 2)
        store.done("anna")
        self.assertEqual(repr(told), again)

    def test_fates_in_order(self):
        store = small(first=14)
        for name in ("anna", "bert", "carl", "dora"):
            store.begin(name)
            store.put(name, "rows", name, 1)
        store.fell("bert")
        store.done("carl")
        self.same(store.fates(), ((14, "open"), (15, "fell"), (0, "done"), (1, "open")))
        store.done("dora")
        store.done("anna")
        self.same(store.fates(), ((14, "done"), (15, "fell"), (0, "done"), (1, "done")))


if __name__ == "__main__":
    unittest.main()
