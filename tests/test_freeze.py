import unittest

from helper import Case, Odd, Whatever, face, no_wholes, no_words, small
from roundstore.errors import Busy, Looked, NoNumber, NoTable, Taken


def write(store, *rows):
    """A deed for each row, which is done: a worth of None cuts."""
    for key, worth in rows:
        store.begin("writer")
        if worth is None:
            store.cut("writer", "rows", key)
        else:
            store.put("writer", "rows", key, worth)
        store.done("writer")


def mixed(first=14):
    """A store whose table has versions of all sorts, up to next three on from 0, and nobody who looks."""
    store = small("other", "rows", first=first)
    write(store, ("a", 1), ("b", 2), ("a", 3))
    store.begin("fallen")
    store.put("fallen", "rows", "c", 4)
    store.cut("fallen", "rows", "b")
    store.fell("fallen")
    write(store, ("b", None))
    return store


class Whole(Case):
    def test_versions_of_all_sorts(self):
        store = mixed()
        self.same(store.versions("rows"), (("a", 1, 14, 0), ("b", 2, 15, 2), ("a", 3, 0, None), ("c", 4, 1, None)))
        told = store.freeze("rows")
        self.same(told, (
            (("a", 1, 14, 0), None),
            (("b", 2, 15, 2), None),
            (("a", 3, 0, None), ("a", 3, None, None)),
            (("c", 4, 1, None), None),
        ))
        self.same(store.versions("rows"), (("a", 3, None, None),))
        self.same(store.eldest_of("rows"), 3)
        self.same(store.eldest_of("other"), 14)
        self.same(store.freeze("rows"), ())
        self.same(store.versions("rows"), (("a", 3, None, None),))

    def test_nothing_to_change(self):
        store = small()
        self.same(store.freeze("rows"), ())
        self.same(store.eldest_of("rows"), 0)
        self.same(str(store), "eldest rows 0\n")

    def test_up_to_the_horizon(self):
        store = small()
        write(store, ("a", 1))
        store.begin("looker")
        write(store, ("a", 2), ("b", 3))
        self.same(store.freeze("rows"), ((("a", 1, 0, 1), ("a", 1, None, 1)),))
        self.same(store.eldest_of("rows"), 1)
        self.same(store.rows("looker", "rows"), (("a", 1),))
        store.done("looker")
        self.same(store.freeze("rows"), (
            (("a", 1, None, 1), None),
            (("a", 2, 1, None), ("a", 2, None, None)),
            (("b", 3, 2, None), ("b", 3, None, None)),
        ))
        self.same(store.eldest_of("rows"), 3)

    def test_ender_that_fell(self):
        store = small()
        write(store, ("a", 1))
        store.freeze("rows")
        store.begin("anna")
        store.cut("anna", "rows", "a")
        store.fell("anna")
        self.same(store.freeze("rows"), ((("a", 1, None, 1), ("a", 1, None, None)),))

    def test_open_ones_stay(self):
        store = small()
        write(store, ("a", 1))
        store.begin("anna")
        store.put("anna", "rows", "a", 2)
        store.put("anna", "rows", "b", 2)
        self.same(store.freeze("rows"), ((("a", 1, 0, 1), ("a", 1, None, 1)),))
        self.same(store.versions("rows"), (("a", 1, None, 1), ("a", 2, 1, None), ("b", 2, 1, None)))
        self.same(store.eldest_of("rows"), 1)

    def test_up_to_each_number(self):
        wanted = {
            14: (("a", 1, 14, 0), ("b", 2, 15, 2), ("a", 3, 0, None)),
            15: (("a", 1, None, 0), ("b", 2, 15, 2), ("a", 3, 0, None)),
            0: (("a", 1, None, 0), ("b", 2, None, 2), ("a", 3, 0, None)),
            1: (("b", 2, None, 2), ("a", 3, None, None)),
            2: (("b", 2, None, 2), ("a", 3, None, None)),
            3: (("a", 3, None, None),),
        }
        for upto, versions in wanted.items():
            store = mixed()
            store.freeze("rows", upto=upto)
            self.same(store.versions("rows"), versions)
            self.same(store.eldest_of("rows"), upto)
        store = mixed()
        for upto, versions in wanted.items():
            store.freeze("rows", upto=upto)
            self.same(store.versions("rows"), versions)
            self.same(store.eldest_of("rows"), upto)

    def test_fates_are_forgotten(self):
        store = mixed()
        store.freeze("rows", upto=1)
        self.same(len(store.fates()), 5)
        store.freeze("other", upto=0)
        self.same(store.fates(), ((0, "done"), (1, "fell"), (2, "done")))
        store.freeze("other")
        self.same(store.fates(), ((1, "fell"), (2, "done")))

    def test_no_looks_rows_change(self):
        store = mixed()
        store.begin("anna")
        store.put("anna", "rows", "x", 1)
        store.cut("anna", "rows", "a")
        store.hold("house")
        store.hold("like", like="anna")
        ahead = face(store)[-1]
        for upto in (14, 15, 0, 1, 2, 3, None):
            for most in (1, 1, 2, None):
                store.freeze("rows", upto=upto, most=most)
                self.same(face(store)[-1], ahead)


class Parts(Case):
    def test_by_most(self):
        store = mixed()
        whole = mixed().freeze("rows")
        self.same(store.freeze("rows", most=1), whole[:1])
        self.same(store.versions("rows"), (("b", 2, 15, 2), ("a", 3, 0, None), ("c", 4, 1, None)))
        self.same(store.eldest_of("rows"), 14)
        self.same(store.freeze("rows", most=2), whole[1:3])
        self.same(store.versions("rows"), (("a", 3, None, None), ("c", 4, 1, None)))
        self.same(store.eldest_of("rows"), 14)
        self.same(store.freeze("rows", most=1), whole[3:])
        self.same(store.eldest_of("rows"), 3)

    def test_none_left_just_by_most(self):
        for most in range(1, 7):
            store = mixed()
            self.same(len(store.freeze("rows", most=most)), min(most, 4))
            self.same(store.eldest_of("rows"), 3 if most >= 4 else 14)

    def test_left_is_one_behind_those_that_stay(self):
        store = small()
        write(store, ("a", 1), ("b", 2))
        store.freeze("rows")
        write(store, ("c", 3))
        store.begin("anna")
        store.put("anna", "rows", "d", 4)
        store.begin("fallen")
        store.put("fallen", "rows", "e", 5)
        store.fell("fallen")
        self.same(store.freeze("rows", most=1), ((("c", 3, 2, None), ("c", 3, None, None)),))
        self.same(store.eldest_of("rows"), 2)
        self.same(store.freeze("rows", most=1), ((("e", 5, 4, None), None),))
        self.same(store.eldest_of("rows"), 3)

    def test_parts_up_to_unlike_numbers(self):
        store = mixed()
        store.freeze("rows", upto=1, most=1)
        self.same(store.eldest_of("rows"), 14)
        store.freeze("rows", upto=15, most=5)
        self.same(store.eldest_of("rows"), 15)
        store.freeze("rows", upto=3, most=1)
        self.same(store.eldest_of("rows"), 15)
        store.freeze("rows")
        self.same(store.versions("rows"), (("a", 3, None, None),))
        self.same(store.eldest_of("rows"), 3)


class Refusals(Case):
    def test_no_table(self):
        store = mixed()
        for table in ["row", "a", "writer", *no_words()]:
            self.refused(NoTable, table, store, store.freeze, table)
            self.refused(NoTable, table, store, store.freeze, table, upto=None, most=0, each=self.fail)
        self.refused(NoTable, None, store, store.freeze, None, upto="x", most="y")

    def test_upto_of_anything(self):
        store = mixed()
        for upto in no_wholes():
            if upto is not None:
                self.refused(NoNumber, upto, store, store.freeze, "rows", upto=upto)
                self.refused(NoNumber, upto, store, store.freeze, "rows", upto=upto, most=0, each=self.fail)

    def test_upto_from_the_eldest_on_to_next(self):
        taken = (14, 15, 0, 1, 2, 3)
        for upto in range(-20, 40):
            store = mixed()
            if upto in taken:
                store.freeze("rows", upto=upto)
            else:
                self.refused(NoNumber, upto, store, store.freeze, "rows", upto=upto)
        store = mixed()
        store.freeze("rows", upto=0)
        for upto in (14, 15, 4, -1, 16, 10 ** 17):
            self.refused(NoNumber, upto, store, store.freeze, "rows", upto=upto)
        store.freeze("rows", upto=0)
        store.freeze("rows", upto=3)
        for upto in (2, 4):
            self.refused(NoNumber, upto, store, store.freeze, "rows", upto=upto)
        store.freeze("rows", upto=3)

    def test_looked(self):
        store = mixed(first=11)
        self.same(store.next(), 0)
        for name in ("zoe", "bert"):
            store.begin(name)
        write(store, ("x", 1), ("y", 1))
        store.begin("anna")
        store.hold("yard", like="zoe")
        self.same(store.horizon(), 0)
        for upto in (1, 2):
            self.refused(Looked, "bert", store, store.freeze, "rows", upto=upto)
            self.refused(Looked, "bert", store, store.freeze, "other", upto=upto)
        self.refused(NoNumber, 3, store, store.freeze, "rows", upto=3)
        store.done("bert")
        self.refused(Looked, "yard", store, store.freeze, "rows", upto=1)
        store.freeze("rows", upto=0)
        self.refused(Looked, "yard", store, store.freeze, "rows", upto=1)
        store.let("yard")
        self.refused(Looked, "zoe", store, store.freeze, "rows", upto=2)
        store.done("zoe")
        store.freeze("rows", upto=2)

    def test_looked_by_a_look_with_open_numbers(self):
        store = small()
        store.begin("anna")
        store.put("anna", "rows", "a", 1)
        write(store, ("b", 1))
        store.hold("house")
        store.done("anna")
        self.same(store.lookers(), (("house", "house", (2, (0,)), None),))
        self.refused(Looked, "house", store, store.freeze, "rows", upto=1)
        self.refused(Looked, "house", store, store.freeze, "rows", upto=2)
        self.same(store.freeze("rows"), ())
        store.let("house")
        self.same(len(store.freeze("rows", upto=2)), 2)

    def test_most_of_anything(self):
        store = mixed()
        for most in [0, -1, -10 ** 17, *no_wholes()]:
            if most is not None:
                self.refused(NoNumber, most, store, store.freeze, "rows", most=most)
                self.refused(NoNumber, most, store, store.freeze, "rows", upto=15, most=most, each=self.fail)
        store.freeze("rows", most=10 ** 18 - 1)

    def test_the_first_refusal_goes(self):
        store = mixed()
        store.begin("anna")
        write(store, ("x", 1))
        for bad in (0, True, [], Odd()):
            self.refused(NoTable, bad, store, store.freeze, bad, upto="x", most=bad)
            self.refused(NoNumber, "x", store, store.freeze, "rows", upto="x", most=bad)
            self.refused(NoNumber, 5, store, store.freeze, "rows", upto=5, most=bad)
            self.refused(Looked, "anna", store, store.freeze, "rows", upto=4, most=bad)
            self.refused(NoNumber, bad, store, store.freeze, "rows", upto=3, most=bad)

    def test_arguments_by_name_alone(self):
        store = mixed()
        self.assertRaises(TypeError, store.freeze, "rows", 15)


class Each(Case):
    def test_handed_each_change(self):
        for most in (None, 1, 3, 4):
            store, handed = mixed(), []
            told = store.freeze("rows", most=most, each=handed.append)
            self.same(tuple(handed), told)
            self.same(told, mixed().freeze("rows", most=most))

    def test_handed_as_soon_as_it_is_made(self):
        store, seen = mixed(), []
        store.freeze("rows", each=lambda change: seen.append((store.versions("rows"), store.eldest_of("rows"))))
        first, second, third, fourth = mixed().versions("rows")
        thawed = ("a", 3, None, None)
        self.same(seen, [
            ((second, third, fourth), 14), ((third, fourth), 14), ((thawed, fourth), 14), ((thawed,), 14),
        ])
        self.same(store.eldest_of("rows"), 3)

    def test_row_of_the_log_is_there(self):
        store, seen = mixed(), []
        store.freeze("rows", each=lambda change: seen.append(str(store).splitlines()[-1]))
        self.same(seen, ["turn rows 0 3", "turn rows 0 3", "turn rows 0 3", "turn rows 1 3"])

    def doors(self, store):
        """Each of the nine, with what would be taken and with what is refused otherwise."""
        return [
            lambda: store.begin("new"), lambda: store.begin(None), lambda: store.begin("anna"),
            lambda: store.put("anna", "rows", "k", 1), lambda: store.put(None, None, None, None),
            lambda: store.cut("anna", "rows", "a"), lambda: store.cut([], [], []),
            lambda: store.done("anna"), lambda: store.done(7),
            lambda: store.fell("anna"), lambda: store.fell({}),
            lambda: store.work("new", self.fail), lambda: store.work("anna", self.fail),
            lambda: store.freeze("other"), lambda: store.freeze("rows"), lambda: store.freeze(1, upto="x", most=-1),
            lambda: store.hold("new"), lambda: store.hold("new", like="anna"), lambda: store.hold(None, like=0),
            lambda: store.let("house"), lambda: store.let(None),
        ]

    def test_busy(self):
        store = mixed()
        store.begin("anna")
        store.hold("house")
        asked = []

        def each(change):
            ahead = face(store)
            for door in self.doors(store):
                with self.assertRaises(Busy) as held:
                    door()
                self.assertIs(type(held.exception), Busy)
                self.assertEqual(face(store), ahead)
            asked.append(store.why("anna", "rows", "a"))

        store.freeze("rows", each=each)
        self.same(len(asked), 4)
        self.same(asked[-1], ((("a", 3, None, None), "seen"),))
        self.same(store.eldest_of("rows"), 3)
        store.put("anna", "rows", "k", 1)
        store.let("house")

    def test_not_busy_where_each_is_not_asked(self):
        store = small()
        store.freeze("rows", each=self.fail)
        store.begin("anna")

    def test_refusals_of_the_freezing_itself_leave_it_idle(self):
        store = mixed()
        self.refused(NoNumber, 0, store, store.freeze, "rows", most=0, each=self.fail)
        store.begin("anna")

    def test_whatever_goes_out(self):
        for kind in (ValueError, KeyError, Busy, Exception, BaseException, Whatever, KeyboardInterrupt,
                     SystemExit, GeneratorExit, StopIteration, RecursionError, NoNumber, Taken):
            for place in range(4):
                self.check_out(kind("x") if kind is not Busy else kind(), place)

    def check_out(self, error, place):
        store, handed = mixed(), []
        store.begin("anna")
        ahead = store.rows("anna", "rows")

        def each(change):
            handed.append(change)
            if len(handed) == place + 1:
                raise error

        with self.assertRaises(type(error)) as held:
            store.freeze("rows", each=each)
        self.assertIs(held.exception, error)
        whole = mixed().freeze("rows")
        self.same(tuple(handed), whole[:place + 1])
        part = mixed()
        part.freeze("rows", most=place + 1)
        self.same(store.versions("rows"), part.versions("rows"))
        self.same(store.eldest_of("rows"), 14)
        self.same(store.rows("anna", "rows"), ahead)
        self.same(str(store).count("turn"), place + 1)
        self.same(str(store).count("eldest"), 0)
        store.put("anna", "rows", "k", 1)
        store.done("anna")
        self.same(store.freeze("rows", upto=3), whole[place + 1:])
        self.same(store.eldest_of("rows"), 3)

    def test_busy_that_goes_out(self):
        store = mixed()
        self.assertRaises(Busy, store.freeze, "rows", each=lambda change: store.begin("anna"))
        store.begin("anna")
        self.same(store.versions("rows")[0], ("b", 2, 15, 2))

    def test_amid_a_work(self):
        store = mixed()

        def each(name):
            store.put(name, "rows", "x", 1)
            store.freeze("rows", each=lambda change: store.put(name, "rows", "y", 1))

        self.assertRaises(Busy, store.work, "anna", each)
        self.same(store.fates()[-1], (3, "fell"))
        self.same(store.lookers(), ())
        store.begin("anna")
        self.same(store.rows("anna", "rows"), (("a", 3),))

    def test_a_work_goes_on_behind_a_freezing(self):
        store = mixed()

        def each(name):
            store.freeze("rows")
            return store.put(name, "rows", "a", 5)

        self.same(store.work("anna", each), 3)
        self.same(store.fates()[-1], (3, "done"))
        self.same(store.eldest_of("rows"), 3)
        self.same(store.versions("rows"), (("a", 3, None, 3), ("a", 5, 3, None)))


if __name__ == "__main__":
    unittest.main()
