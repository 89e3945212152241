import unittest

from helper import Case, Odd, no_words, small
from roundstore.errors import NoDeed, NoHouse, NoName, Taken


def kept():
    store = small(first=15)
    store.begin("maker")
    store.put("maker", "rows", "a", 1)
    store.done("maker")
    return store


class Hold(Case):
    def test_as_of_now(self):
        store = kept()
        store.begin("anna")
        store.put("anna", "rows", "a", 2)
        self.assertIsNone(store.hold("far"))
        store.begin("bert")
        self.same(store.lookers(), (
            ("anna", "deed", (0, ()), 0), ("bert", "deed", (1, (0,)), None), ("far", "house", (1, (0,)), None),
        ))
        store.done("anna")
        self.same(store.rows("far", "rows"), (("a", 1),))
        store.hold("near")
        self.same(store.rows("near", "rows"), (("a", 2),))
        self.same(store.rows("far", "rows"), (("a", 1),))

    def test_like_left_out_and_none(self):
        one, other = kept(), kept()
        one.hold("far")
        other.hold("far", like=None)
        self.assertEqual(one, other)
        self.same(one.lookers(), other.lookers())

    def test_like_a_deed_with_a_number(self):
        store = kept()
        store.begin("anna")
        store.put("anna", "rows", "a", 2)
        store.put("anna", "rows", "b", 2)
        store.hold("far", like="anna")
        self.same(store.lookers()[1], ("far", "house", (0, ()), None))
        self.same(store.rows("anna", "rows"), (("a", 2), ("b", 2)))
        self.same(store.rows("far", "rows"), (("a", 1),))
        self.same(store.why("far", "rows", "a"), ((("a", 1, 15, 0), "seen"), (("a", 2, 0, None), "open")))
        store.done("anna")
        self.same(store.rows("far", "rows"), (("a", 1),))
        self.same(store.why("far", "rows", "a"), ((("a", 1, 15, 0), "seen"), (("a", 2, 0, None), "later")))

    def test_like_a_deed_without_one(self):
        store = kept()
        store.begin("anna")
        store.begin("bert")
        store.put("bert", "rows", "a", 2)
        store.done("bert")
        store.hold("far", like="anna")
        store.hold("near")
        self.same(store.rows("far", "rows"), (("a", 1),))
        self.same(store.rows("near", "rows"), (("a", 2),))
        store.put("anna", "rows", "b", 1)
        self.same(store.rows("far", "rows"), (("a", 1),))

    def test_like_a_house(self):
        store = kept()
        store.hold("far")
        store.begin("bert")
        store.put("bert", "rows", "a", 2)
        store.done("bert")
        store.hold("other", like="far")
        self.same(store.lookers(), (("far", "house", (0, ()), None), ("other", "house", (0, ()), None)))
        store.let("far")
        store.hold("third", like="other")
        self.same(store.rows("third", "rows"), (("a", 1),))
        self.same(store.horizon(), 0)

    def test_like_itself_is_nobody_yet(self):
        store = kept()
        self.refused(NoName, "far", store, store.hold, "far", like="far")

    def test_houses_write_nothing(self):
        store = kept()
        store.hold("far")
        self.refused(NoDeed, "far", store, store.put, "far", "rows", "b", 1)
        self.refused(NoDeed, "far", store, store.cut, "far", "rows", "a")
        self.refused(NoDeed, "far", store, store.done, "far")
        self.refused(NoDeed, "far", store, store.fell, "far")

    def test_taken(self):
        store = kept()
        store.begin("anna")
        store.hold("far")
        for name in ["anna", "far", *no_words()]:
            self.refused(Taken, name, store, store.hold, name)
            self.refused(Taken, name, store, store.hold, name, like="anna")
            self.refused(Taken, name, store, store.hold, name, like="nobody")
        for bad in (0, (), [], Odd()):
            self.refused(Taken, "far", store, store.hold, "far", like=bad)

    def test_no_name(self):
        store = kept()
        store.begin("anna")
        for like in ["maker", "nobody", "new", *no_words()]:
            if like is not None:
                self.refused(NoName, like, store, store.hold, "new", like=like)

    def test_like_by_name_alone(self):
        store = kept()
        store.begin("anna")
        self.assertRaises(TypeError, store.hold, "far", "anna")

    def test_what_it_sees_is_kept_from_sweeping(self):
        store = kept()
        store.hold("far")
        for worth in (2, 3):
            store.begin("anna")
            store.put("anna", "rows", "a", worth)
            store.done("anna")
        store.freeze("rows")
        self.same(store.versions("rows"), (("a", 1, None, 0), ("a", 2, 0, 1), ("a", 3, 1, None)))
        self.same(store.rows("far", "rows"), (("a", 1),))
        store.let("far")
        store.freeze("rows")
        self.same(store.versions("rows"), (("a", 3, None, None),))


class Let(Case):
    def test_looks_no_more(self):
        store = kept()
        store.hold("far")
        store.hold("near")
        self.assertIsNone(store.let("far"))
        self.same([one[0] for one in store.lookers()], ["near"])
        self.refused(NoHouse, "far", store, store.let, "far")
        self.refused(NoName, "far", store, store.rows, "far", "rows")
        self.refused(NoName, "far", store, store.hold, "new", like="far")
        store.begin("far")
        self.refused(NoHouse, "far", store, store.let, "far")

    def test_no_house(self):
        store = kept()
        store.begin("anna")
        store.hold("far")
        for name in ["anna", "maker", "nobody", *no_words()]:
            self.refused(NoHouse, name, store, store.let, name)


if __name__ == "__main__":
    unittest.main()
