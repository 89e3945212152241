import copy
import unittest

from roundstore import errors

BARE = (
    ("NoStore", ValueError),
    ("NoLine", ValueError),
    ("Busy", RuntimeError),
)
VALUED = (
    ("Taken", KeyError, "name"),
    ("NoDeed", LookupError, "name"),
    ("NoName", LookupError, "name"),
    ("NoHouse", LookupError, "name"),
    ("NoTable", LookupError, "name"),
    ("NoRow", LookupError, "key"),
    ("Late", RuntimeError, "key"),
    ("Waits", RuntimeError, "who"),
    ("Looked", RuntimeError, "name"),
    ("NoNumber", ValueError, "number"),
    ("Stopped", OverflowError, "by"),
    ("NoText", ValueError, "row"),
)


def thirty_deep():
    thing = ()
    for _ in range(30):
        thing = (thing, 1)
    return thing


def things():
    return [
        "anna", "", "No Word\n", 0, 1, -1, 64, 10 ** 18 - 1, True, False, None,
        (), ("a",), (("deed", "anna"), ("table", "rows")), ("a", (1, (None, True))), thirty_deep(),
        [], ["a", ["b"]], {}, {"a": [1]}, {1, 2}, b"a", object(), int, len, ValueError("x"),
    ]


def all_classes():
    return [(getattr(errors, row[0]), row[1]) for row in BARE + VALUED]


class Classes(unittest.TestCase):
    def test_fifteen_and_no_more(self):
        here = {name for name, thing in vars(errors).items() if isinstance(thing, type)}
        self.assertEqual(here, {row[0] for row in BARE + VALUED})
        self.assertEqual(len(here), 15)

    def test_each_stands_under_the_told_class(self):
        for found, base in all_classes():
            self.assertEqual(found.__bases__, (base,), found)

    def test_none_stands_under_another(self):
        for one, _ in all_classes():
            for other, _ in all_classes():
                self.assertEqual(issubclass(one, other), one is other, (one, other))


class Caught(unittest.TestCase):
    def check_caught(self, error, own, base):
        for caught in (own, base):
            with self.assertRaises(caught) as held:
                raise error
            self.assertIs(held.exception, error)
        for other, _ in all_classes():
            if other is not own:
                self.assertNotIsInstance(error, other)

    def test_made_without_anything(self):
        for name, base in BARE:
            own = getattr(errors, name)
            self.check_caught(own(), own, base)

    def test_made_with_a_value(self):
        for name, base, _ in VALUED:
            own = getattr(errors, name)
            for thing in things():
                self.check_caught(own(thing), own, base)


class Values(unittest.TestCase):
    def test_value_is_what_it_was_made_with(self):
        for name, _, attribute in VALUED:
            for thing in things():
                error = getattr(errors, name)(thing)
                self.assertIs(getattr(error, attribute), thing, (name, thing))

    def test_value_is_there_when_caught(self):
        for name, base, attribute in VALUED:
            for thing in things():
                with self.assertRaises(base) as held:
                    raise getattr(errors, name)(thing)
                self.assertIs(getattr(held.exception, attribute), thing, (name, thing))

    def test_only_the_told_attribute_is_set(self):
        for name, _, attribute in VALUED:
            self.assertEqual(list(vars(getattr(errors, name)("a"))), [attribute], name)
        for name, _ in BARE:
            self.assertEqual(vars(getattr(errors, name)()), {}, name)

    def test_each_object_has_its_own_value(self):
        for name, _, attribute in VALUED:
            one, other = getattr(errors, name)("a"), getattr(errors, name)("b")
            self.assertEqual((getattr(one, attribute), getattr(other, attribute)), ("a", "b"))

    def test_a_value_is_asked_for(self):
        for name, _, _ in VALUED:
            self.assertRaises(TypeError, getattr(errors, name))

    def test_shown_whatever_the_value(self):
        for name, _, _ in VALUED:
            for thing in things():
                error = getattr(errors, name)(thing)
                self.assertIsInstance(str(error), str)
                self.assertIn(name, repr(error))

    def test_copied(self):
        for name, _, attribute in VALUED:
            again = copy.copy(getattr(errors, name)(("a", 1)))
            self.assertEqual(getattr(again, attribute), ("a", 1))


if __name__ == "__main__":
    unittest.main()
