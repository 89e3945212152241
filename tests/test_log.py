import unittest

from helper import Case, Odd, Whatever, face, no_wholes, small
from roundstore.errors import (
    Busy, Late, Looked, NoDeed, NoHouse, NoName, NoNumber, NoRow, NoTable, Stopped, Taken, Waits,
)
from roundstore.store import Store


class Log(Case):
    def log(self, store, *rows):
        for _ in range(2):
            self.same(str(store), "".join(row + "\n" for row in rows))

    def test_empty(self):
        self.log(small())

    def test_a_row_for_each_thing_done(self):
        store = small("one", "two")
        store.begin("anna")
        store.put("anna", "two", "k", 1)
        store.put("anna", "one", "x", "word")
        store.cut("anna", "two", "k")
        store.hold("far")
        store.hold("near", like="anna")
        store.done("anna")
        store.begin("bert")
        store.fell("bert")
        store.let("far")
        self.log(store, "begin anna", "put anna two k 1", "put anna one x word", "cut anna two k", "hold far",
                 "hold near anna", "done anna", "begin bert", "fell bert", "let far")

    def test_worths(self):
        store = small()
        store.begin("anna")
        for worth in (0, -1, 7, 10 ** 18 - 1, 1 - 10 ** 18, 10, "abcdefgh"):
            store.put("anna", "rows", "k", worth)
        self.log(store, "begin anna", "put anna rows k 0", "put anna rows k -1", "put anna rows k 7",
                 "put anna rows k 999999999999999999", "put anna rows k -999999999999999999",
                 "put anna rows k 10", "put anna rows k abcdefgh")

    def test_works(self):
        store = small()

        def falls(name):
            raise Whatever()

        store.work("anna", lambda name: None)
        self.assertRaises(Whatever, store.work, "bert", falls)
        store.work("carl", store.done)
        store.work("dora", store.fell)
        self.log(store, "begin anna", "done anna", "begin bert", "fell bert", "begin carl", "done carl",
                 "begin dora", "fell dora")

    def frozen(self):
        """A table with a version that stays, one to be swept, one to be frozen, one to be swept."""
        store = small(first=15)
        store.begin("anna")
        store.put("anna", "rows", "a", 1)
        store.done("anna")
        store.freeze("rows")
        self.log(store, "begin anna", "put anna rows a 1", "done anna", "turn rows 0 0", "eldest rows 0")
        store.begin("anna")
        store.put("anna", "rows", "b", 2)
        store.put("anna", "rows", "b", 3)
        store.done("anna")
        store.begin("bert")
        store.put("bert", "rows", "c", 4)
        store.fell("bert")
        return store

    def behind(self, store):
        return tuple(str(store).splitlines()[12:])

    def test_freezing_whole(self):
        store = self.frozen()
        self.same(self.behind(store), ())
        store.freeze("rows")
        self.same(self.behind(store), ("turn rows 1 2", "turn rows 1 2", "turn rows 2 2", "eldest rows 2"))

    def test_freezing_in_parts(self):
        store = self.frozen()
        store.freeze("rows", upto=1, most=1)
        self.same(self.behind(store), ("turn rows 1 1",))
        store.freeze("rows", most=1)
        self.same(self.behind(store)[1:], ("turn rows 1 2",))
        store.freeze("rows", most=1)
        self.same(self.behind(store)[2:], ("turn rows 2 2", "eldest rows 2"))

    def test_eldest_that_stays(self):
        store = small()
        store.freeze("rows")
        store.freeze("rows", upto=0, most=1)
        store.begin("anna")
        store.freeze("rows", upto=0)
        self.log(store, "eldest rows 0", "eldest rows 0", "begin anna", "eldest rows 0")

    def test_freezing_amid_which_something_goes_out(self):
        store = self.frozen()

        def each(change):
            raise Whatever()

        self.assertRaises(Whatever, store.freeze, "rows", each=each)
        self.same(self.behind(store), ("turn rows 1 2",))
        self.assertRaises(Whatever, store.freeze, "rows", each=each)
        self.assertRaises(Whatever, store.freeze, "rows", each=each)
        self.same(self.behind(store), ("turn rows 1 2", "turn rows 1 2", "turn rows 2 2"))
        store.freeze("rows", each=each)
        self.same(self.behind(store)[3:], ("eldest rows 2",))

    def test_refused_things_leave_no_row(self):
        store = small(stop=2, warn=1)
        store.begin("late")
        for worth in (1, 2):
            store.begin("anna")
            store.put("anna", "rows", "k", worth)
            store.done("anna")
        store.begin("anna")
        ahead = str(store)
        for wanted, ask in (
            (Taken, lambda: store.begin("anna")), (Taken, lambda: store.work("late", self.fail)),
            (NoDeed, lambda: store.put("nobody", "rows", "k", 1)), (NoTable, lambda: store.cut("anna", "zz", "k")),
            (NoRow, lambda: store.put("anna", "rows", "k", None)), (NoRow, lambda: store.cut("anna", "rows", "zz")),
            (Late, lambda: store.put("late", "rows", "k", 3)), (Stopped, lambda: store.put("anna", "rows", "x", 3)),
            (Stopped, lambda: store.cut("anna", "rows", "k")),
            (NoDeed, lambda: store.done("nobody")), (NoDeed, lambda: store.fell(5)),
            (NoName, lambda: store.rows("nobody", "rows")), (NoName, lambda: store.hold("new", like="zz")),
            (Taken, lambda: store.hold("anna")), (NoHouse, lambda: store.let("anna")),
            (NoTable, lambda: store.freeze("zz")), (NoNumber, lambda: store.freeze("rows", upto=3)),
            (Looked, lambda: store.freeze("rows", upto=1)), (NoNumber, lambda: store.freeze("rows", most=0)),
        ):
            self.assertRaises(wanted, ask)
            self.same(str(store), ahead)
        store.fell("late")

        def each(change):
            now = str(store)
            self.assertRaises(Busy, store.begin, "new")
            self.assertRaises(Busy, store.done, "anna")
            self.same(str(store), now)

        store.freeze("rows", each=each)
        store.put("anna", "rows", "x", 1)
        store.begin("other")
        now = str(store)
        self.assertRaises(Waits, store.put, "other", "rows", "x", 3)
        self.same(str(store), now)


class Length(Case):
    def test_versions_of_all_tables(self):
        store = small("one", "two")
        self.same((len(store), repr(store)), (0, "Store(0)"))
        store.begin("anna")
        for at in range(12):
            store.put("anna", "one" if at % 3 else "two", "k", at)
            self.same((len(store), repr(store)), (at + 1, f"Store({at + 1})"))
        store.done("anna")
        store.freeze("one")
        self.same((len(store), repr(store)), (5, "Store(5)"))
        store.freeze("two")
        self.same((len(store), repr(store)), (2, "Store(2)"))


class Alike(Case):
    def alike(self, one, other, wanted):
        for _ in range(2):
            self.assertIs(one == other, wanted)
            self.assertIs(other == one, wanted)
            self.assertIs(one != other, not wanted)

    def test_alike(self):
        self.alike(small(), small(), True)
        store = small()
        self.alike(store, store, True)
        self.alike(Store(("a",)), Store(("a",), ring=64, stop=28, warn=20, first=0), True)

    def test_unlike_in_what_they_are_made_of(self):
        self.alike(small("a"), small("b"), False)
        self.alike(small("a"), small("a", "b"), False)
        self.alike(small(ring=16), small(ring=18), False)
        self.alike(small(stop=7), small(stop=6), False)
        self.alike(small(warn=5), small(warn=4), False)
        self.alike(small(first=0), small(first=15), False)

    def test_unlike_in_what_was_done(self):
        one, other = small(), small()
        for ask in (
            lambda store: store.begin("anna"), lambda store: store.put("anna", "rows", "k", 1),
            lambda store: store.hold("far", like="anna"), lambda store: store.done("anna"),
            lambda store: store.freeze("rows"), lambda store: store.let("far"), lambda store: store.freeze("rows"),
        ):
            ask(one)
            self.alike(one, other, False)
            ask(other)
            self.alike(one, other, True)
            self.assertEqual(face(one), face(other))

    def test_logs_count_not_what_stands(self):
        one, other = small(), small()
        one.begin("anna")
        one.fell("anna")
        self.alike(one, other, False)
        other.begin("anna")
        other.done("anna")
        self.alike(one, other, False)

    def test_what_was_refused_counts_not(self):
        one, other = small(), small()
        self.assertRaises(Taken, one.begin, None)
        self.assertRaises(NoTable, one.freeze, "zz")
        one.rows
        self.alike(one, other, True)

    def test_parts_of_a_freezing_told_otherwise(self):
        one, other = small(), small()
        for store in (one, other):
            store.begin("anna")
            store.put("anna", "rows", "k", 1)
            store.put("anna", "rows", "k", 2)
            store.done("anna")
        one.freeze("rows")
        other.freeze("rows", most=1)
        self.alike(one, other, False)
        other.freeze("rows", most=1)
        self.alike(one, other, True)

    def test_never_with_another_thing(self):
        store = small()
        for thing in no_wholes() + [0, 1]:
            if not isinstance(thing, Odd):
                self.alike(store, thing, False)
            # An odd one says so of itself, but a store that is asked says no.
            self.assertIs(store == thing, False)

        class Twin:
            def __init__(self):
                vars(self).update(vars(store))

        self.alike(store, Twin(), False)
        self.alike(store, str(store), False)


if __name__ == "__main__":
    unittest.main()
