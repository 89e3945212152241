"""Random runs on small rings, held against a store by endless numbers behind each thing done."""

import random
import unittest

from helper import KEYS, NAMES, SIZES, Case, Refused, Run, Whatever, face, script
from roundstore import errors
from roundstore.looks import is_look
from roundstore.ring import eldest, spread
from roundstore.store import Store


class Endlessly(Case):
    def check_whole(self, run):
        self.assertEqual(face(run.store), run.twin.face())

    def check_half(self, run):
        """All numbers that stand, and the next one, lie within less than half a ring."""
        store, ring = run.store, run.twin.ring
        looks = [one[2] for one in store.lookers()]
        numbers = [store.next(), store.floor(), store.horizon()]
        numbers += [number for look in looks for number in (look[0], *look[1])]
        numbers += [one[3] for one in store.lookers() if one[3] is not None]
        versions = [row for table in store.tables for row in store.versions(table)]
        numbers += [one for row in versions for one in row[2:] if one is not None]
        self.assertEqual(eldest(tuple(numbers), ring=ring), store.floor())
        self.assertLessEqual(spread(tuple(numbers), ring=ring), run.twin.stop)
        self.assertTrue(all((number - store.floor()) % ring < ring // 2 for number in numbers))
        self.assertTrue(all(is_look(look, ring=ring) for look in looks))

    def check_keys(self, run):
        """Each look has of each key one row at most."""
        for name in run.twin.lookers:
            for table in run.twin.tables:
                keys = [key for key, worth in run.store.rows(name, table)]
                self.assertEqual(keys, sorted(set(keys)))

    def step(self, run):
        door, handed = run.pick()
        wanted = run.told(getattr(run.twin, door), *handed)
        if wanted[0] == "told" and door in ("put", "cut"):
            wanted = ("told", run.twin.round(wanted[1]))
        self.assertEqual(run.told(run.ask_store, door, handed), wanted, (door, handed))
        run.done += wanted[0] == "told"
        self.check_whole(run)
        self.check_half(run)
        self.check_keys(run)
        return door, wanted[0]

    def test_against_the_endless_store(self):
        rounds, met = {}, {}
        for seed in range(60):
            size = SIZES[seed % len(SIZES)]
            tables = ("one", "two", "zoo")[:1 + seed % 3]
            run = Run(seed, tables, size, random.Random(seed).randrange(size[0]))
            for _ in range(600):
                outcome = self.step(run)
                met[outcome] = met.get(outcome, 0) + 1
            went = (run.twin.coming - run.twin.first) / size[0]
            rounds[size] = max(went, rounds.get(size, 0))
        # The runs are worth something only where numbers go round, and all refusals are met.
        for size in SIZES[:-1]:
            self.assertGreater(rounds[size], 3, size)
        for outcome in (
            ("begin", "Taken"), ("put", "NoDeed"), ("put", "Waits"), ("put", "Late"), ("put", "Stopped"),
            ("cut", "NoRow"), ("cut", "Waits"), ("cut", "Late"), ("cut", "Stopped"), ("cut", "told"),
            ("done", "NoDeed"), ("fell", "NoDeed"), ("hold", "Taken"), ("hold", "NoName"), ("hold", "told"),
            ("let", "NoHouse"), ("let", "told"), ("freeze", "NoNumber"), ("freeze", "Looked"), ("freeze", "told"),
        ):
            self.assertGreater(met.get(outcome, 0), 5, outcome)


class Anywhere(Case):
    """Wherever numbers begin, and on whatever ring, all looks' rows are alike."""

    def follow(self, store, things):
        """What is told and seen behind each thing, and how many numbers were given."""
        seen, given = [], 0
        for door, *handed in things:
            ahead = store.next()
            try:
                getattr(store, door)(*handed)
                seen.append("told")
            except (LookupError, RuntimeError) as error:
                seen.append((type(error).__name__, list(vars(error).values())))
            given += store.next() != ahead
            looks = [one[0] for one in store.lookers()]
            seen.append([(name, table, store.rows(name, table)) for name in looks for table in store.tables])
        return seen, given

    def test_alike(self):
        for seed in range(8):
            things = script(seed, 180)
            wanted = self.follow(Store(("one", "two"), ring=2 ** 20, stop=2 ** 19 - 1, warn=1), things)
            self.assertGreater(wanted[1], 3 * 14)
            for ring in (14, 16, 20, 64):
                for first in (0, 1, ring // 2, ring - 1):
                    store = Store(("one", "two"), ring=ring, stop=ring // 2 - 1, warn=1, first=first)
                    self.assertEqual(self.follow(store, things), wanted, (seed, ring, first))


class Freezings(Case):
    """Freezing, in whatever parts, order, or how often, changes no look's rows."""

    def build(self, seed, freezes):
        """A run of deeds; where freezes is a chance, freezings stand amid it."""
        chance = random.Random(seed)
        store = Store(("one", "two"), ring=64, stop=31, warn=1, first=50)
        told = []
        for at in range(60):
            name, table, key = chance.choice(NAMES), chance.choice(("one", "two")), chance.choice(KEYS)
            door, handed = chance.choice((
                ("begin", (name,)), ("put", (name, table, key, at)), ("cut", (name, table, key)), ("done", (name,)),
                ("fell", (name,)), ("hold", (name,)), ("let", (name,)),
            ))
            try:
                told.append(getattr(store, door)(*handed))
            except (LookupError, RuntimeError) as error:
                told.append(type(error))
            for _ in range(0 if freezes is None else freezes.randrange(4)):
                self.freeze_some(store, freezes)
            told.append(face(store)[-1])
        return told

    def freeze_some(self, store, chance):
        table = chance.choice(store.tables)
        ahead = face(store)[-1]
        room = (store.horizon() - store.eldest_of(table)) % 64
        upto = chance.choice((None, (store.eldest_of(table) + chance.randint(0, room)) % 64))

        def each(change):
            self.assertEqual(face(store)[-1], ahead)
            if chance.random() < 0.2:
                raise Whatever()

        try:
            store.freeze(table, upto=upto, most=chance.choice((None, 1, 2, 5)), each=each)
        except Whatever:
            pass
        self.assertEqual(face(store)[-1], ahead)

    def test_alike(self):
        for seed in range(25):
            wanted = self.build(seed, None)
            for other in range(4):
                self.assertEqual(self.build(seed, random.Random(100 * seed + other)), wanted)


class GoesOn(Case):
    """Whatever goes out of a work or of a freezing's each, the store goes on."""

    def test_works_and_freezings(self):
        fallen = 0
        for seed in range(30):
            chance = random.Random(seed)
            size = SIZES[seed % len(SIZES)]
            run = Run(seed, ("one", "two"), size, chance.randrange(size[0]))
            for _ in range(60):
                self.work(run, chance)
                self.check_whole(run)
                self.freeze(run, chance)
                self.check_whole(run)
            fallen += str(run.store).count("fell ")
        self.assertGreater(fallen, 100)

    check_whole = Endlessly.check_whole

    def writes(self, run, chance):
        return [(chance.choice(run.twin.tables), chance.choice(KEYS), chance.randrange(10 ** 6)) for _ in range(3)]

    def work(self, run, chance):
        writes, ends = self.writes(run, chance), chance.choice((None, None, None, "done", "fell"))
        breaks = chance.random() < 0.3

        def each(doors):
            def inner(name):
                for table, key, worth in writes:
                    doors.put(name, table, key, worth)
                if ends:
                    getattr(doors, ends)(name)
                if breaks:
                    raise Whatever()
            return inner

        try:
            run.store.work("zoe", each(run.store))
        except (Whatever, errors.Waits, errors.Late, errors.Stopped):
            pass
        run.twin.begin("zoe")
        try:
            each(run.twin)("zoe")
            word = "done"
        except (Whatever, Refused):
            word = "fell"
        if "zoe" in run.twin.lookers:
            run.twin.end("zoe", word)

    def freeze(self, run, chance):
        table, most = chance.choice(run.twin.tables), chance.randint(1, 4)
        asked = []

        def each(change):
            asked.append(change)
            self.assertRaises(errors.Busy, run.store.begin, "new")
            if len(asked) == most:
                raise Whatever()

        # Where something goes out at the last change, the eldest stays, as one more were left to be changed.
        left = len([row for row in run.twin.thin[table] if run.twin.turned(row, run.twin.horizon()) != row])
        try:
            run.store.freeze(table, each=each)
        except Whatever:
            self.assertEqual(len(asked), most)
        if left == most:
            eldest_ahead, log_ahead = run.twin.eldest[table], len(run.twin.log)
            run.twin.freeze(table, most=most)
            run.twin.eldest[table] = eldest_ahead
            del run.twin.log[log_ahead + most:]
        else:
            self.assertEqual(run.twin.freeze(table, most=most), tuple(asked))


if __name__ == "__main__":
    unittest.main()
