import unittest

from helper import Case, face, small
from roundstore.errors import Late, Stopped, Waits
from roundstore.store import Store


def use_up(store, many, table="rows"):
    """So many deeds write a row each, and are done."""
    for at in range(many):
        store.begin("user")
        store.put("user", table, "k", at)
        store.done("user")


class Stands(Case):
    def stands(self, store, horizon, floor, room, warned, *holders):
        for _ in range(2):
            told = (store.horizon(), store.floor(), store.room(), store.warned(), store.holders())
            self.same(told, (horizon, floor, room, warned, holders))

    def test_without_looks(self):
        store = small(first=14)
        self.stands(store, 14, 14, 7, False, ("table", "rows"))
        use_up(store, 3)
        self.stands(store, 1, 14, 4, False, ("table", "rows"))
        use_up(store, 4)
        self.stands(store, 5, 14, 0, True, ("table", "rows"))

    def test_horizon_by_deeds(self):
        store = small()
        use_up(store, 2)
        store.begin("anna")
        use_up(store, 1)
        self.stands(store, 2, 0, 4, False, ("table", "rows"))
        store.put("anna", "rows", "a", 1)
        store.begin("bert")
        # Anna's number 3 is open for bert, but anna's own look is elder.
        self.same(store.lookers()[1][2], (4, (3,)))
        self.stands(store, 2, 0, 3, False, ("table", "rows"))
        store.done("anna")
        self.stands(store, 3, 0, 3, False, ("table", "rows"))
        store.fell("bert")
        self.stands(store, 4, 0, 3, False, ("table", "rows"))

    def test_horizon_by_houses(self):
        store = small(first=15)
        store.hold("far")
        use_up(store, 2)
        store.hold("near")
        use_up(store, 1)
        self.stands(store, 15, 15, 4, False, ("house", "far"), ("table", "rows"))
        store.hold("like", like="near")
        store.let("far")
        self.stands(store, 1, 15, 4, False, ("table", "rows"))
        store.let("near")
        self.stands(store, 1, 15, 4, False, ("table", "rows"))
        store.let("like")
        self.stands(store, 2, 15, 4, False, ("table", "rows"))

    def test_floor_by_the_eldest_table(self):
        store = small("a", "b", "c", first=14)
        use_up(store, 4, "a")
        store.freeze("b")
        self.stands(store, 2, 14, 3, False, ("table", "a"), ("table", "c"))
        self.same([store.eldest_of(one) for one in "abc"], [14, 2, 14])
        store.freeze("a", upto=15)
        self.stands(store, 2, 14, 3, False, ("table", "c"))
        store.freeze("c", upto=0)
        self.stands(store, 2, 15, 4, False, ("table", "a"))
        self.same(store.fates(), ((15, "done"), (0, "done"), (1, "done")))
        store.freeze("a")
        self.stands(store, 2, 0, 5, False, ("table", "c"))
        store.freeze("c")
        self.stands(store, 2, 2, 7, False, ("table", "a"), ("table", "b"), ("table", "c"))
        self.same(store.fates(), ())

    def test_holders_of_all_sorts(self):
        store = small("a", "b")
        store.hold("yard")
        store.begin("zoe")
        store.begin("anna")
        use_up(store, 1, "a")
        store.begin("late")
        self.stands(store, 0, 0, 6, False, ("deed", "anna"), ("deed", "zoe"), ("house", "yard"),
                    ("table", "a"), ("table", "b"))
        store.put("anna", "a", "x", 1)
        store.begin("last")
        store.done("anna")
        store.done("zoe")
        store.let("yard")
        # Late looks from 1 on, last from anna's 1 on.
        self.stands(store, 1, 0, 5, False, ("table", "a"), ("table", "b"))
        store.freeze("a")
        store.freeze("b")
        self.stands(store, 1, 1, 6, False, ("deed", "last"), ("deed", "late"), ("table", "a"), ("table", "b"))

    def test_warned(self):
        for stop, warn in ((7, 5), (7, 7), (7, 1), (1, 1), (3, 2)):
            for first in (0, 15):
                store = small(stop=stop, warn=warn, first=first)
                for used in range(stop + 1):
                    self.same(store.warned(), used >= warn)
                    self.same(store.room(), stop - used)
                    if used < stop:
                        use_up(store, 1)

    def test_warned_no_more_behind_a_freezing(self):
        store = small()
        use_up(store, 6)
        self.same(store.warned(), True)
        store.freeze("rows", upto=1)
        self.same((store.warned(), store.room()), (True, 2))
        store.freeze("rows", upto=2)
        self.same((store.warned(), store.room()), (False, 3))


class Stop(Case):
    def test_numbers_till_there_is_no_room(self):
        for ring, stop in ((8, 3), (8, 1), (10, 4), (16, 7), (64, 31)):
            for first in (0, ring // 2, ring - 1):
                store = small(ring=ring, stop=stop, warn=1, first=first)
                for at in range(stop):
                    store.begin("anna")
                    self.same(store.put("anna", "rows", "k", at), (first + at) % ring)
                    store.done("anna")
                store.begin("anna")
                self.refused(Stopped, (("table", "rows"),), store, store.put, "anna", "rows", "k", 9)
                self.refused(Stopped, (("table", "rows"),), store, store.cut, "anna", "rows", "k")
                store.fell("anna")
                store.freeze("rows")
                store.begin("anna")
                self.same(store.put("anna", "rows", "k", 9), (first + stop) % ring)

    def test_told_by_holders(self):
        store = small("a", "b", stop=3, warn=3, first=15)
        store.begin("anna")
        store.hold("yard")
        store.put("anna", "a", "x", 1)
        use_up(store, 2, "b")
        store.begin("bert")
        by = (("deed", "anna"), ("deed", "bert"), ("house", "yard"), ("table", "a"), ("table", "b"))
        self.refused(Stopped, by, store, store.put, "bert", "a", "k", 1)
        store.done("anna")
        store.freeze("a")
        store.freeze("b")
        by = (("deed", "bert"), ("house", "yard"), ("table", "a"), ("table", "b"))
        self.refused(Stopped, by, store, store.put, "bert", "a", "k", 1)
        store.let("yard")
        # Bert himself holds the store: anna was open when he began.
        by = (("deed", "bert"), ("table", "a"), ("table", "b"))
        self.refused(Stopped, by, store, store.put, "bert", "a", "k", 1)
        store.fell("bert")
        store.freeze("a")
        by = (("table", "b"),)
        store.begin("carl")
        self.refused(Stopped, by, store, store.put, "carl", "a", "k", 1)

    def test_what_goes_on_all_the_same(self):
        store = small(stop=3, warn=1)
        store.begin("anna")
        store.put("anna", "rows", "a", 1)
        store.begin("free")
        use_up(store, 2)
        self.same(store.room(), 0)
        # Who has a number writes on.
        self.same(store.put("anna", "rows", "a", 2), 0)
        self.same(store.put("anna", "rows", "b", 1), 0)
        self.same(store.cut("anna", "rows", "a"), 0)
        store.begin("bert")
        store.hold("yard")
        store.hold("like", like="bert")
        self.same(store.rows("bert", "rows"), (("k", 1),))
        self.same(store.rows("yard", "rows"), (("k", 1),))
        store.done("anna")
        store.fell("free")
        store.done("bert")
        store.let("yard")
        store.work("carl", lambda name: store.rows(name, "rows"))
        self.same(store.room(), 0)
        store.let("like")
        store.freeze("rows", upto=1)
        self.same(store.room(), 1)
        store.work("carl", lambda name: store.put(name, "rows", "k", 3))
        self.same(store.room(), 0)

    def test_other_refusals_go_ahead(self):
        store = small(stop=2, warn=1)
        store.begin("late")
        store.begin("anna")
        store.put("anna", "rows", "a", 1)
        use_up(store, 1)
        self.refused(Waits, "anna", store, store.put, "late", "rows", "a", 2)
        self.refused(Late, "k", store, store.put, "late", "rows", "k", 2)
        self.refused(Late, "k", store, store.cut, "late", "rows", "k")
        by = (("deed", "anna"), ("deed", "late"), ("table", "rows"))
        self.refused(Stopped, by, store, store.put, "late", "rows", "x", 2)

    def test_stopped_amid_a_work(self):
        store = small(stop=1, warn=1)
        use_up(store, 1)
        ahead = face(store)[1:]
        with self.assertRaises(Stopped) as held:
            store.work("anna", lambda name: store.put(name, "rows", "x", 1))
        # Anna began to look behind the floor: the table alone is at it.
        self.same(held.exception.by, (("table", "rows"),))
        self.same(face(store)[1:], ahead)

    def test_default_stop(self):
        store = Store(("rows",))
        for at in range(28):
            self.same(store.warned(), at >= 20)
            use_up(store, 1)
        store.begin("anna")
        self.refused(Stopped, (("table", "rows"),), store, store.put, "anna", "rows", "k", 1)

    def test_all_numbers_lie_within_the_stop(self):
        store = small(ring=8, stop=3, warn=1, first=6)
        given = []
        for at in range(40):
            store.begin("anna")
            if store.room() == 0:
                self.refused(Stopped, store.holders(), store, store.put, "anna", "rows", "k", at)
                store.fell("anna")
                store.freeze("rows")
                continue
            given.append(store.put("anna", "rows", "k", at))
            store.done("anna")
            numbers = [one for row in store.versions("rows") for one in row[2:] if one is not None]
            for number in numbers + [store.next()]:
                self.assertLessEqual((number - store.floor()) % 8, 3)
        self.assertEqual(given, [(6 + at) % 8 for at in range(len(given))])
        self.assertGreater(len(given), 24)


if __name__ == "__main__":
    unittest.main()
