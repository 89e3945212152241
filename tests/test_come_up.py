"""Coming up from logs, whole, cut and spoilt, held against the tests' own reading of their rows."""

import inspect
import random
import re
import unittest

from helper import KEYS, SIZES, Case, Endless, Refused, Run, Whatever, face, no_wholes, small
from roundstore import errors, logs
from roundstore.errors import NoStore
from roundstore.logs import come_up
from roundstore.store import Store

WORD = r"([a-z]{1,8})"
NUMBER = r"(0|-?[1-9][0-9]{0,17})"
WORTH = rf"([a-z]{{1,8}}|0|-?[1-9][0-9]{{0,17}})"
FORMS = tuple(re.compile(form) for form in (
    f"(begin) {WORD}", f"(put) {WORD} {WORD} {WORD} {WORTH}", f"(cut) {WORD} {WORD} {WORD}", f"(done) {WORD}",
    f"(fell) {WORD}", f"(hold) {WORD}", f"(hold) {WORD} {WORD}", f"(let) {WORD}",
    f"(turn) {WORD} {NUMBER} {NUMBER}", f"(eldest) {WORD} {NUMBER}",
))


class Reader(Endless):
    """The endless store, which reads rows of a log: the tests' own coming up."""

    def read(self, text):
        """Does the rows of a text, as far as can be, and lets all open deeds fall: how many signs were taken."""
        signs = 0
        for row in re.findall(r"[^\n]*\n", text):
            try:
                self.take(row[:-1])
            except Refused:
                break
            signs += len(row)
        for name in [name for name, one in self.lookers.items() if one["kind"] == "deed"]:
            self.fell(name)
        return signs

    def take(self, row):
        found = [form.fullmatch(row) for form in FORMS if form.fullmatch(row)]
        if not found:
            raise Refused("unwritten", row)
        door, *handed = found[0].groups()
        place = {"put": 1, "cut": 1, "turn": 0, "eldest": 0}.get(door)
        if place is not None and handed[place] not in self.tables:
            raise Refused("NoTable", handed[place])
        if door == "put":
            handed[3] = int(handed[3]) if re.search("[0-9]", handed[3]) else handed[3]
        if door in ("turn", "eldest"):
            handed[1:] = [int(one) for one in handed[1:]]
        getattr(self, door + "_row" if door in ("turn", "eldest") else door)(*handed)

    def goal(self, table, upto):
        """The endless number that upto stands for."""
        goal = self.eldest[table] + (upto - self.eldest[table]) % self.ring
        if not 0 <= upto < self.ring or goal > self.horizon():
            raise Refused("NoNumber", upto)
        return goal

    def turn_row(self, table, place, upto):
        goal, shelf = self.goal(table, upto), self.thin[table]
        if not 0 <= place < len(shelf) or self.turned(shelf[place], goal) == shelf[place]:
            raise Refused("NoNumber", place)
        now = self.turned(shelf[place], goal)
        shelf[place:place + 1] = [] if now is None else [now]
        self.log.append(f"turn {table} {place} {upto}")

    def eldest_row(self, table, upto):
        goal = self.goal(table, upto)
        if any(self.turned(row, goal) != row for row in self.thin[table]):
            raise Refused("NoNumber", upto)
        self.eldest[table] = goal
        self.log.append(f"eldest {table} {upto}")


class Up(Case):
    def come(self, store, text):
        """What comes up from a text on what a store is made of."""
        return come_up(store.tables, text, ring=store.ring, stop=store.stop, warn=store.warn, first=store.first)

    def check(self, store, text):
        """Comes up from a text, and holds it against the tests' own reading."""
        told = self.come(store, text)
        self.assertIs(type(told), tuple)
        found, signs = told
        self.assertIs(type(found), Store)
        self.assertIs(type(signs), int)
        reader = Reader(store.tables, store.ring, store.stop, store.warn, store.first)
        self.assertEqual(signs, reader.read(text), text)
        self.assertEqual(face(found), reader.face())
        self.assertEqual([one for one in found.lookers() if one[1] == "deed"], [])
        return found, signs

    def takes(self, store, text, signs):
        self.same(self.check(store, text)[1], signs)

    def takes_all(self, store, text):
        self.takes(store, text, len(text))

    def takes_but(self, store, good, bad):
        """Takes the good rows, and none of the bad ones behind them."""
        self.takes(store, good + bad, len(good))


class Interface(Case):
    def test_arguments(self):
        arguments = inspect.signature(vars(logs)["come_up"]).parameters
        self.assertEqual(come_up.__module__, logs.__name__)
        self.assertEqual(tuple(arguments), ("tables", "text", "ring", "stop", "warn", "first"))
        for name, default in (("ring", 64), ("stop", 28), ("warn", 20), ("first", 0)):
            self.assertEqual(arguments[name].kind, inspect.Parameter.KEYWORD_ONLY)
            self.assertEqual(arguments[name].default, default)


class Refusals(Case):
    def no_store(self, *handed, **named):
        with self.assertRaises(NoStore) as held:
            come_up(*handed, **named)
        self.assertIs(type(held.exception), NoStore)

    def test_as_a_store_is(self):
        for tables in ((), ("b", "a"), ("a", "a"), ["a"], "a", ("A",), ("abcdefghi",), (1,), None):
            self.no_store(tables, "")
            self.no_store(tables, "begin anna\n")
        for named in (
            {"ring": 6}, {"ring": 9}, {"ring": 40}, {"stop": 19}, {"stop": 32}, {"warn": 0}, {"warn": 29},
            {"first": -1}, {"first": 64}, {"ring": 8}, {"warn": True}, {"first": False},
        ):
            self.no_store(("a",), "", **named)

    def test_of_anything(self):
        for thing in no_wholes():
            if not (type(thing) is tuple and thing in (("a",), ("a", "b"))):
                self.no_store(thing, "")
            for name in ("ring", "stop", "warn", "first"):
                self.no_store(("a",), "", **{"ring": 8, "stop": 3, "warn": 1, "first": 0, name: thing})

    def test_ahead_of_all(self):
        for text in (None, 5, [], "no row", "begin anna\nbegin anna\n"):
            self.no_store(("b", "a"), text)
            self.no_store(("a",), text, ring=7)


class Rows(Up):
    def test_none(self):
        store = small()
        for text in ("", "begin anna", "x", " ", "begin anna "):
            self.takes(store, text, 0)
        self.takes(store, "\n", 0)
        self.takes(store, "\nbegin anna\n", 0)

    def test_what_is_left_out_is_as_told(self):
        store, signs = come_up(("a",), "hold far\n")
        self.same((store.ring, store.stop, store.warn, store.first), (64, 28, 20, 0))
        self.assertEqual(store, come_up(("a",), "hold far\n", ring=64, stop=28, warn=20, first=0)[0])
        self.assertNotEqual(store, come_up(("a",), "hold far\n", first=1)[0])

    def test_each_row(self):
        store = small("one", "two", first=15)
        self.takes_all(store, "begin anna\n")
        self.takes_all(store, "begin anna\nput anna one k 5\n")
        self.takes_all(store, "begin anna\nput anna two k word\nput anna two k -5\ncut anna two k\n")
        self.takes_all(store, "begin anna\nput anna two k word\ndone anna\nbegin anna\ncut anna two k\nfell anna\n")
        self.takes_all(store, "begin anna\nhold far anna\nhold near far\nlet far\nhold far\n")
        good = "begin anna\nput anna one k 5\nput anna one k 6\ndone anna\n"
        self.takes_all(store, good + "turn one 0 0\nturn one 0 0\neldest one 0\neldest two 0\n")
        self.takes_all(store, good + "turn one 1 0\n")
        self.takes_all(store, good + "eldest one 15\neldest two 0\neldest two 0\nturn one 1 0\nturn one 0 0\n")

    def test_whole_with_its_line_feed(self):
        store = small()
        text = "begin anna\nput anna rows k 12\n"
        for cut in range(len(text) + 1):
            self.takes(store, text[:cut], 0 if cut < 11 else 11 if cut < len(text) else len(text))

    def test_open_deeds_fall_in_the_order_in_which_they_began(self):
        store = small()
        text = "begin zoe\nbegin anna\nhold far\nbegin bert\nput bert rows k 1\nfell zoe\nbegin zoe\n"
        found, signs = self.check(store, text)
        self.same(signs, len(text))
        self.same(str(found), text + "fell anna\nfell bert\nfell zoe\n")
        self.same(found.fates(), ((0, "fell"),))
        self.same([one[0] for one in found.lookers()], ["far"])

    def test_how_they_began_goes_not_by_names_or_numbers(self):
        store = small("rows", stop=7)
        text = "".join(f"begin {name}\n" for name in "cabed") + "put e rows k 1\nput d rows x 1\nput c rows y 1\n"
        self.same(str(self.check(store, text)[0]), text + "".join(f"fell {name}\n" for name in "cabed"))

    def test_a_refused_row_ends_it(self):
        store = small("one", "two", stop=2, warn=1)
        good = "begin anna\nhold far\nput anna one k 1\n"
        self.takes_all(store, good)
        for bad in (
            "begin anna\n", "begin far\n", "hold anna\n", "hold far\n", "hold new new\n", "hold new nobody\n",
            "let anna\n", "let nobody\n", "done far\n", "done nobody\n", "fell nobody\n", "put far one k 1\n",
            "put nobody one k 1\n", "put anna zoo k 1\n", "cut anna zoo k\n", "cut anna one x\n", "cut anna two k\n",
            "put bert one k 2\n", "turn one 0 0\n", "turn one 0 1\n", "eldest one 1\n",
            "eldest zoo 0\n",
        ):
            self.takes_but(store, good, bad + "begin next\n")
        late = good + "begin bert\ndone anna\n"
        self.takes_but(store, late, "put bert one k 2\n")
        self.takes_but(store, late, "cut bert one k\n")
        waits = good + "begin bert\n"
        self.takes_but(store, waits, "put bert one k 2\n")
        stopped = waits + "put bert one x 2\nbegin carl\n"
        self.takes_but(store, stopped, "put carl one y 2\n")

    def test_what_stands_behind_is_left(self):
        store = small()
        self.takes(store, "begin anna\nbegin anna\ndone anna\n", 11)
        self.takes(store, "begin anna\nx\ndone anna\n", 11)
        self.takes(store, "begin anna\n\ndone anna\n", 11)

    def test_how_numbers_are_written(self):
        store = small()
        good = "begin anna\n"
        for worth in ("0", "7", "-7", "10", "999999999999999999", "-999999999999999999", "a", "abcdefgh"):
            found, signs = self.check(store, good + f"put anna rows k {worth}\n")
            self.assertGreater(signs, len(good))
            self.same(found.versions("rows")[0][1], worth if worth.isalpha() else int(worth))
        for worth in (
            "", "00", "07", "-0", "-", "--7", "-07", "+7", "7-", "1_0", "1.0", "0x1", "1e3", "1000000000000000000",
            "-1000000000000000000", "0" * 18, "7 ", " 7", "a1", "1a", "A", "abcdefghi", "None", "True", "\u0661",
            "\u00b2", "a-", "-a", "'a'",
        ):
            self.takes_but(store, good, f"put anna rows k {worth}\n")

    def test_how_words_are_written(self):
        store = small()
        for name in ("a", "abcdefgh", "begin", "rows", "none", "turn"):
            self.takes_all(store, f"begin {name}\ndone {name}\n")
        for name in ("", "A", "abcdefghi", "a1", "a-b", "1", "-", "a.", "\u00e9", "`", "{", "a\t"):
            self.takes(store, f"begin {name}\n", 0)
            self.takes(store, f"hold {name}\n", 0)

    def test_how_rows_are_written(self):
        store = small()
        good = "begin anna\nput anna rows k 1\n"
        for row in (
            "cut anna rows k", "done anna", "hold far", "hold far anna", "put anna rows k 2", "fell anna",
            "begin bert",
        ):
            self.takes_all(store, good + row + "\n")
            spoilt = [" " + row, row + " ", row.replace(" ", "  "), row.replace(" ", "\t"), row.replace(" ", ""),
                      row + " anna anna anna", row.partition(" ")[0], row.upper(), row.capitalize(), row + ";",
                      row.replace(" ", "\n"), "-" + row, row + "\r", row + ".", "#" + row]
            for one in spoilt:
                self.takes_but(store, good, one + "\n")

    def test_lines_of_a_desk_are_no_rows(self):
        good = "begin anna\n"
        for row in ("freeze rows - -", "rows anna rows", "why anna rows k", "fates", "holders", "floor", "horizon",
                    "next", "room", "log", "work anna", "let", "hold"):
            self.takes_but(small(), good, row + "\n")


class Freezings(Up):
    """Turns and eldests, as they stand in no log, too."""

    def ahead(self):
        """Two versions to be swept, two to be frozen, one that is open; next 4, the horizon 3, the eldest 15."""
        store = small("other", "rows", first=15)
        text = "".join(
            f"begin a\nput a rows {key} {worth}\n{end} a\n"
            for key, worth, end in (("x", 1, "done"), ("x", 2, "done"), ("y", 3, "fell"), ("z", 4, "done"))
        )
        return store, text + "begin b\nput b rows w 5\n"

    def test_ahead(self):
        store, text = self.ahead()
        self.takes_all(store, text)
        same = self.come(store, text[:-len("begin b\nput b rows w 5\n")])[0]
        same.begin("b")
        same.put("b", "rows", "w", 5)
        self.same((same.eldest_of("rows"), same.horizon(), same.next()), (15, 3, 4))
        same.freeze("rows")
        rows = ("turn rows 0 3\n", "turn rows 0 3\n", "turn rows 1 3\n", "turn rows 1 3\n", "eldest rows 3\n")
        self.same(str(same), text + "".join(rows))
        for many in range(6):
            self.takes_all(store, text + "".join(rows[:many]))
        # Behind the second turn the first place has a version that is frozen.
        self.takes_but(store, text + "".join(rows[:2]), rows[0])

    def test_in_any_order(self):
        store, text = self.ahead()
        self.takes_all(store, text + "turn rows 3 3\nturn rows 2 3\nturn rows 1 3\nturn rows 0 3\neldest rows 3\n")
        self.takes_all(store, text + "turn rows 2 15\nturn rows 1 1\nturn rows 0 1\nturn rows 1 3\neldest rows 3\n")
        self.takes_all(store, text + "turn rows 0 0\nturn rows 2 0\neldest rows 0\nturn rows 0 1\n")

    def test_between_other_rows(self):
        store, text = self.ahead()
        self.takes_all(store, text + "turn rows 0 3\nbegin c\nput c rows x 9\nturn rows 0 1\nfell c\n")
        self.takes_all(store, text + "turn rows 0 3\nhold far\ndone b\nturn rows 0 3\nlet far\nturn rows 2 4\n")

    def test_turns_that_are_refused(self):
        store, text = self.ahead()
        for row in (
            "turn rows 0 14", "turn rows 0 4", "turn rows 0 5", "turn rows 0 16", "turn rows 0 -1", "turn rows 0 31",
            "turn rows 5 3", "turn rows -1 3", "turn rows 99 3", "turn rows 4 3", "turn rows 1 0", "turn rows 3 2",
            "turn zoo 0 3", "turn other 0 3", "turn rows 0", "turn rows 0 3 3", "turn rows 00 3", "turn rows 0 03",
            "turn rows -0 3", "turn rows 0 -", "turn rows - 3", "turn rows x 3", "turn rows 0 x", "turn 0 0 3",
            "turn rows 0 3 ", "turn rows  0 3", "Turn rows 0 3", "turn rows 0 1000000000000000003",
            "turn rows 1000000000000000000 3", "turn rows 0 3.", "turns rows 0 3",
        ):
            self.takes_but(store, text, row + "\n")
        for row in ("turn rows 0 1", "turn rows 0 0", "turn rows 0 2", "turn rows 0 3", "turn rows 2 15"):
            self.takes_all(store, text + row + "\n")

    def test_turned_once(self):
        store, text = self.ahead()
        for row in ("turn rows 3 3\n", "turn rows 1 1\n", "turn rows 0 0\n"):
            self.takes_but(store, text + row, row)

    def test_eldests_that_are_refused(self):
        store, text = self.ahead()
        for row in (
            "eldest rows 3", "eldest rows 0", "eldest rows 15", "eldest rows 14", "eldest rows 4", "eldest rows 16",
            "eldest rows -1", "eldest other 4", "eldest other 14", "eldest zoo 3", "eldest other", "eldest other 3 3",
            "eldest other 03", "eldest other -0", "eldest other -", "eldest other x", "eldest other 3 ", "eldest 3",
            "Eldest other 3", "eldest  other 3", "eldest other 19",
        ):
            self.takes_but(store, text, row + "\n")
        for row in ("eldest other 15", "eldest other 0", "eldest other 3"):
            self.takes_all(store, text + row + "\n")
        raised = text + "eldest other 1\n"
        for row in ("eldest other 0\n", "eldest other 15\n", "turn other 0 1\n"):
            self.takes_but(store, raised, row)
        self.takes_all(store, raised + "eldest other 1\neldest other 3\n")

    def test_what_is_raised_by_an_eldest_makes_room(self):
        store = small(stop=2, warn=1, first=15)
        text = "begin a\nput a rows x 1\ndone a\nbegin a\nput a rows x 2\ndone a\nbegin b\n"
        self.takes_but(store, text, "put b rows y 1\n")
        self.takes_all(store, text + "turn rows 0 1\nturn rows 0 1\neldest rows 1\nput b rows y 1\n")


def random_log(seed, many, most_tables=3):
    """A run with deeds, works, houses, freezings whole, in parts, and amid which something goes out."""
    size = SIZES[seed % len(SIZES)]
    chance = random.Random(seed)
    run = Run(seed, ("one", "two", "zoo")[:1 + seed % most_tables], size, chance.randrange(size[0]))
    seen = {}
    for _ in range(many):
        if chance.random() < 0.1:
            random_work(run, chance)
        elif chance.random() < 0.1:
            random_break(run, chance)
        else:
            door, handed = run.pick()
            run.told(getattr(run.twin, door), *handed)
            run.told(run.ask_store, door, handed)
        seen[len(str(run.store))] = houses_of(run.store)
    return run, seen


def houses_of(store):
    """What each far house sees."""
    return [(name, table, look, store.rows(name, table))
            for name, sort, look, number in store.lookers() if sort == "house" for table in store.tables]


def random_work(run, chance):
    table, breaks = chance.choice(run.twin.tables), chance.random() < 0.4

    def each(name):
        for at in range(chance.randrange(3)):
            run.store.put(name, table, chance.choice(KEYS), chance.choice(("word", -at, 10 ** 17 + at)))
        if breaks:
            raise Whatever()

    try:
        run.store.work("zoe", each)
    except (Whatever, errors.Waits, errors.Late, errors.Stopped):
        pass
    catch_up(run)


def random_break(run, chance):
    asked = []

    def each(change):
        asked.append(change)
        if len(asked) == 2:
            raise Whatever()

    try:
        run.store.freeze(chance.choice(run.twin.tables), each=each)
    except Whatever:
        pass
    catch_up(run)


def catch_up(run):
    """The twin does what the log has more than its own."""
    twin = Reader(run.twin.tables, run.twin.ring, run.twin.stop, run.twin.warn, run.twin.first)
    for row in str(run.store).splitlines():
        twin.take(row)
    run.twin = twin


class Whole(Up):
    def end_all(self, store, text):
        """The store itself, all its deeds fallen, in the order in which their names stand last in the log."""
        names = [one[0] for one in store.lookers() if one[1] == "deed"]
        for name in sorted(names, key=lambda name: ("\n" + text).rindex(f"\nbegin {name}\n")):
            store.fell(name)

    def test_whole_logs(self):
        turned = 0
        for seed in range(48):
            run, seen = random_log(seed, 150)
            text = str(run.store)
            turned += text.count("turn ")
            found, signs = self.check(run.store, text)
            self.same(signs, len(text))
            self.end_all(run.store, text)
            self.assertEqual(found, run.store)
            self.assertEqual(face(found), face(run.store))
            self.same(houses_of(found), seen[len(text)] if text else [])
        self.assertGreater(turned, 500)

    def test_it_goes_on_as_the_store_does(self):
        for seed in range(18):
            run, seen = random_log(seed, 80)
            text = str(run.store)
            found = self.come(run.store, text)[0]
            self.end_all(run.store, text)
            catch_up(run)
            run.chance = random.Random(seed)
            for _ in range(80):
                door, handed = run.pick()
                wanted = run.told(run.ask_store, door, handed)
                run.told(getattr(run.twin, door), *handed)
                first, run.store = run.store, found
                self.assertEqual(run.told(run.ask_store, door, handed), wanted)
                run.store = first
                self.assertEqual(face(found), face(run.store))

    def test_what_comes_up_from_what_came_up(self):
        for seed in range(18):
            run, seen = random_log(seed, 60)
            text = str(run.store)
            for cut in range(0, len(text) + 1, 7):
                found, signs = self.come(run.store, text[:cut])
                again, more = self.come(run.store, str(found))
                self.assertEqual(again, found)
                self.assertEqual(face(again), face(found))
                self.same(more, len(str(found)))
                self.assertTrue(str(found).startswith(text[:signs]))


class Cuts(Up):
    def test_at_any_sign(self):
        for seed in range(12):
            run, seen = random_log(seed, 60)
            self.check_cuts(run.store, str(run.store), seen)

    def check_cuts(self, store, text, seen):
        ends = [0] + [at + 1 for at, sign in enumerate(text) if sign == "\n"]
        wanted = {}
        for end in ends:
            wanted[end] = self.check(store, text[:end])[0]
            if end in seen:
                # Far houses see what they saw when these rows were done.
                self.same(houses_of(wanted[end]), seen[end])
        for cut in range(len(text) + 1):
            found, signs = self.come(store, text[:cut])
            self.same(signs, max(end for end in ends if end <= cut))
            self.assertEqual(found, wanted[signs])
            self.assertEqual(str(found)[:signs], text[:signs])


class Spoilt(Up):
    def rows(self, seed):
        run, seen = random_log(seed, 50)
        return run.store, str(run.store).splitlines(keepends=True)

    def test_left_out_doubled_and_moved(self):
        for seed in range(12):
            store, rows = self.rows(seed)
            chance = random.Random(seed)
            for at in range(len(rows)):
                self.check(store, "".join(rows[:at] + rows[at + 1:]))
                self.check(store, "".join(rows[:at] + rows[at:at + 1] + rows[at:]))
                to = chance.randrange(len(rows))
                left = rows[:at] + rows[at + 1:]
                self.check(store, "".join(left[:to] + rows[at:at + 1] + left[to:]))

    def test_words_spoilt(self):
        others = ("anna", "bert", "zoe", "one", "two", "a", "b", "begin", "put", "cut", "done", "fell", "hold", "let",
                  "turn", "eldest", "0", "1", "2", "3", "7", "-1", "00", "-0", "", "A", "abcdefghi", "word", "-")
        for seed in range(12):
            store, rows = self.rows(seed)
            chance = random.Random(seed)
            for at, row in enumerate(rows):
                words = row[:-1].split(" ")
                for place in range(len(words)):
                    spoilt = words[:place] + [chance.choice(others)] + words[place + 1:]
                    self.check(store, "".join(rows[:at] + [" ".join(spoilt) + "\n"] + rows[at + 1:]))
                place = chance.randrange(len(words) + 1)
                spoilt = words[:place] + [chance.choice(others)] + words[place:]
                self.check(store, "".join(rows[:at] + [" ".join(spoilt) + "\n"] + rows[at + 1:]))

    def test_signs_spoilt(self):
        signs = "abz019- \n~A.{`/:"
        for seed in range(6):
            store, rows = self.rows(seed)
            text, chance = "".join(rows), random.Random(seed)
            for at in range(0, len(text), 2):
                self.check(store, text[:at] + chance.choice(signs) + text[at + 1:])
                self.check(store, text[:at] + chance.choice(signs) + text[at:])
                self.check(store, text[:at] + text[at + 1:])


class Read(Up):
    """Point 4 (h): what is written is read as it was."""

    def test_worths(self):
        store = small()
        store.begin("anna")
        worths = (0, 1, -1, 10, -10, 10 ** 18 - 1, 1 - 10 ** 18, "a", "none", "true", "abcdefgh")
        for at, worth in enumerate(worths):
            store.put("anna", "rows", "k" + chr(97 + at), worth)
        store.done("anna")
        found, signs = self.check(store, str(store))
        self.assertEqual(found, store)
        self.same(found.versions("rows"), store.versions("rows"))
        found.begin("bert")
        self.same(tuple(worth for key, worth in found.rows("bert", "rows")), worths)

    def test_three_thousand_rows(self):
        store = Store(("one", "two"), ring=16, stop=7, warn=5, first=9)
        for at in range(500):
            store.begin("anna")
            store.put("anna", ("one", "two")[at % 2], KEYS[at % 3], at)
            store.done("anna")
            if at % 3 == 2:
                store.freeze("one")
                store.freeze("two")
        found, signs = self.come(store, str(store))
        self.same(signs, len(str(store)))
        self.assertEqual(face(found), face(store))
        self.assertGreater(str(store).count("\n"), 2000)


if __name__ == "__main__":
    unittest.main()
