import inspect
import random
import unittest

from helper import SIZES, Case, Run, face, no_wholes
from roundstore import desk as desk_module
from roundstore import errors
from roundstore.desk import Desk
from roundstore.errors import (
    Late, Looked, NoDeed, NoHouse, NoLine, NoName, NoNumber, NoRow, NoTable, NoText, Stopped, Taken, Waits,
)
from roundstore.logs import come_up
from roundstore.store import Store

GOOD = "ring 16 7 5 15\ntables one two"


class Interface(Case):
    def test_arguments(self):
        self.assertEqual(Desk.__module__, desk_module.__name__)
        for name, places in (("__init__", ("text",)), ("say", ("line",))):
            arguments = inspect.signature(vars(Desk)[name]).parameters
            self.assertEqual(tuple(arguments)[1:], places, name)
            for one in arguments.values():
                self.assertEqual((one.kind, one.default), (one.POSITIONAL_OR_KEYWORD, one.empty))


class Made(Case):
    def makes(self, text, *tables, **named):
        """The desk's store answers as one of these does."""
        desk, store = Desk(text), Store(tables, **named)
        for line, wanted in (("next", store.next()), ("room", store.room()), ("floor", store.floor())):
            self.same(desk.say(line), str(wanted))
        self.same(desk.say("holders"), " ; ".join(f"table {table}" for table in tables))

    def test_texts(self):
        self.makes("ring 64 28 20 0\ntables a", "a")
        self.makes("ring 8 3 1 7\ntables a", "a", ring=8, stop=3, warn=1, first=7)
        self.makes("ring 8 1 1 0\ntables a b", "a", "b", ring=8, stop=1, warn=1)
        self.makes("ring 1048576 524287 524287 1048575\ntables abcdefgh", "abcdefgh", ring=2 ** 20,
                   stop=2 ** 19 - 1, warn=2 ** 19 - 1, first=2 ** 20 - 1)
        self.makes("ring 16 7 5 3\ntables a b c d e f", *"abcdef", ring=16, stop=7, warn=5, first=3)
        self.makes("ring 16 7 5 3\ntables ring tables", "ring", "tables", ring=16, stop=7, warn=5, first=3)

    def test_warn(self):
        desk = Desk("ring 8 3 2 0\ntables a")
        self.same((desk.store.ring, desk.store.stop, desk.store.warn, desk.store.first), (8, 3, 2, 0))

    def no_text(self, text, row):
        for _ in range(2):
            with self.assertRaises(NoText) as held:
                Desk(text)
            self.assertIs(type(held.exception), NoText)
            self.same(held.exception.row, row)

    def test_no_text_at_all(self):
        for thing in no_wholes() + [0, 5, GOOD.encode(), (GOOD,), [GOOD], tuple(GOOD.split("\n"))]:
            if not isinstance(thing, str):
                self.no_text(thing, 0)

    def test_the_first_row(self):
        rows = (
            "", "ring", "ring 16", "ring 16 7 5", "ring 16 7 5 0 0", "ring  16 7 5 0", " ring 16 7 5 0",
            "ring 16 7 5 0 ", "Ring 16 7 5 0", "rings 16 7 5 0", "tables a", "16 7 5 0", "ring 16 7 5 x", "ring a b c d",
            "ring 16 7 5 -", "ring 16 7 5 00", "ring 016 7 5 0", "ring 16 7 5 -0", "ring +16 7 5 0", "ring 16 7 5 1.0",
            "ring 16 7 5 1000000000000000000", "ring -1000000000000000000 7 5 0", "ring 1_6 7 5 0", "ring 16\t7 5 0",
            "ring 16 7 5 0\r", "ring 16 7 5 \u0660", "ring 16 7 5 0x0", "ring 16, 7, 5, 0", "#", " ", "ring 16 7 5 --1",
        )
        for row in rows:
            self.no_text(row, 0)
            self.no_text(row + "\ntables a", 0)
            self.no_text(row + "\ntables A", 0)
            self.no_text(row + "\ntables a\nmore", 0)
            self.no_text(row + "\n", 0)
            self.no_text("\n" + GOOD, 0)
        for thing in no_wholes():
            if isinstance(thing, str):
                self.no_text(thing, 0)

    def test_the_second_row(self):
        rows = (
            "", "tables", "tables ", "tables  a", " tables a", "tables a ", "tables a  b", "Tables a", "table a", "a b",
            "tables A", "tables a B", "tables a1", "tables 1", "tables abcdefghi", "tables a,b", "tables\ta",
            "tables a\r", "tables -", "tables \u00e9", "ring 16 7 5 0", "tables a.", "tablesa", "tables a-b",
        )
        for row in rows:
            self.no_text("ring 16 7 5 0\n" + row, 1)
            self.no_text("ring 16 7 5 0\n" + row + "\n", 1)
            self.no_text("ring 16 7 5 0\n" + row + "\ntables a", 1)
            self.no_text("ring 7 7 7 7\n" + row, 1)

    def test_just_one_row(self):
        self.no_text("ring 16 7 5 0", 1)
        self.no_text("ring 1 1 1 1", 1)
        self.no_text("ring -5 0 0 -1", 1)
        self.no_text("ring 16 7 5 0\n", 1)

    def test_a_third_row(self):
        for more in ("\n", "\n\n", "\ntables a", "\nx", "\n ", "\n\ntables a", "\nbegin anna\n"):
            self.no_text(GOOD + more, 2)
            self.no_text("ring 7 7 7 7\ntables a" + more, 2)
            self.no_text("ring 16 7 5 0\ntables b a" + more, 2)

    def test_no_store(self):
        for row in (
            "ring 7 3 1 0", "ring 6 2 1 0", "ring 9 3 1 0", "ring 0 1 1 0", "ring -8 3 1 0", "ring 8 4 1 0",
            "ring 8 3 0 0", "ring 8 3 4 0", "ring 8 0 0 0", "ring 8 3 -1 0", "ring 8 3 1 8", "ring 8 3 1 -1",
            "ring 8 999999999999999999 1 0", "ring 8 3 1 -999999999999999999", "ring 8 2 3 0",
        ):
            self.no_text(row + "\ntables a", 2)
        for row in ("tables b a", "tables a a", "tables a b b", "tables a c b", "tables aa a"):
            self.no_text("ring 8 3 1 0\n" + row, 2)


class Says(Case):
    def says(self, desk, *pairs):
        for line, wanted in pairs:
            self.same(desk.say(line), wanted)

    def test_rows_of_the_log(self):
        self.says(
            Desk(GOOD), ("begin anna", "done"), ("put anna one k 5", "15"), ("begin bert", "done"),
            ("put bert two k word", "0"), ("put anna one k -7", "15"), ("cut anna one k", "15"), ("hold far", "done"),
            ("hold near anna", "done"), ("done anna", "done"), ("fell bert", "done"), ("let far", "done"),
            ("log", "begin anna\nput anna one k 5\nbegin bert\nput bert two k word\nput anna one k -7\n"
                    "cut anna one k\nhold far\nhold near anna\ndone anna\nfell bert\nlet far\n"),
        )

    def test_nothing_to_tell(self):
        desk = Desk(GOOD)
        self.says(desk, ("log", "."), ("fates", "."))
        self.says(desk, ("begin anna", "done"), ("rows anna one", "."), ("why anna one k", "."))
        self.says(desk, ("freeze one - -", "."), ("log", "begin anna\neldest one 15\n"))

    def test_numbers(self):
        desk = Desk(GOOD)
        self.says(desk, ("next", "15"), ("floor", "15"), ("horizon", "15"), ("room", "7"))
        for name in ("anna", "bert"):
            self.says(desk, (f"begin {name}", "done"), (f"put {name} one {name} 1", "15" if name == "anna" else "0"))
            self.says(desk, (f"done {name}", "done"))
        self.says(desk, ("next", "1"), ("floor", "15"), ("horizon", "1"), ("room", "5"))
        self.says(desk, ("freeze one - -", "anna 1 15 - > - - ; bert 1 0 - > - -"), ("floor", "15"))
        self.says(desk, ("freeze two 0 -", "."), ("floor", "0"), ("room", "6"), ("holders", "table two"))

    def test_freeze(self):
        desk = Desk(GOOD)
        for line in ("begin a", "put a one k 1", "done a", "begin a", "put a one k 2", "put a one x word", "done a",
                     "begin a", "put a one y -3", "cut a one x", "fell a", "hold far", "begin a", "cut a one k"):
            desk.say(line)
        self.says(
            desk, ("freeze one 15 1", "x word 0 1 > 0 -"), ("freeze one 15 1", "y -3 1 - > swept"),
            ("freeze one 0 -", "k 1 15 0 > - 0"), ("freeze one - 1", "k 1 - 0 > swept"),
            ("freeze one - 2", "k 2 0 2 > - 2 ; x word 0 - > - -"), ("freeze one - -", "."),
            ("freeze two 2 5", "."), ("room", "6"),
        )
        self.same(desk.say("log").split("\n")[-10:], [
            "turn one 2 15", "turn one 2 15", "eldest one 15", "turn one 0 0", "eldest one 0", "turn one 0 2",
            "turn one 0 2", "turn one 1 2", "eldest one 2", "eldest one 2", "eldest two 2", "",
        ][-10:])

    def test_rows(self):
        desk = Desk(GOOD)
        for line in ("begin a", "put a one k 1", "put a one b word", "put a one bb -999999999999999999", "done a",
                     "begin a", "cut a one k", "hold far"):
            desk.say(line)
        self.says(
            desk, ("rows a one", "b word ; bb -999999999999999999"),
            ("rows far one", "b word ; bb -999999999999999999 ; k 1"), ("rows far two", "."),
        )

    def test_why(self):
        desk = Desk(GOOD)
        for line in ("begin a", "put a one k 1", "done a", "begin b", "put b one k 2", "fell b", "hold far", "begin c",
                     "put c one k word"):
            desk.say(line)
        self.says(desk, ("why far one k", "1 15 1 seen ; 2 0 - fell ; word 1 - open"))
        self.says(desk, ("why c one k", "1 15 1 cut ; 2 0 - fell ; word 1 - seen"))
        self.says(desk, ("freeze one - -", "k 1 15 1 > - 1 ; k 2 0 - > swept"), ("done c", "done"))
        self.says(desk, ("why far one k", "1 - 1 seen ; word 1 - later"), ("why far one x", "."))

    def test_fates_and_holders(self):
        desk = Desk(GOOD)
        for line in ("begin a", "put a one a 1", "begin b", "put b one b 1", "begin c", "put c one c 1", "done a",
                     "fell b", "hold far"):
            desk.say(line)
        self.says(desk, ("fates", "15 done ; 0 fell ; 1 open"))
        self.says(desk, ("holders", "deed c ; table one ; table two"), ("let far", "done"))
        self.says(desk, ("hold far c", "done"), ("holders", "deed c ; house far ; table one ; table two"))

    def test_asking_changes_nothing(self):
        desk = Desk(GOOD)
        desk.say("begin a")
        desk.say("put a one k 1")
        ahead = face(desk.store)
        for line in ("rows a one", "why a one k", "fates", "holders", "floor", "horizon", "next", "room", "log"):
            self.same(desk.say(line), desk.say(line))
            self.same(face(desk.store), ahead)


class Refusals(Case):
    def refused_line(self, wanted, value, desk, line):
        self.refused(wanted, value, desk.store, desk.say, line)

    def test_as_the_store_refuses(self):
        desk = Desk("ring 8 2 1 0\ntables one two")
        for line in ("begin late", "begin anna", "put anna one k 1", "done anna", "begin anna", "put anna one x 2",
                     "begin bert", "hold far"):
            desk.say(line)
        for wanted, value, line in (
            (Taken, "anna", "begin anna"), (Taken, "far", "begin far"), (Taken, "anna", "hold anna"),
            (Taken, "anna", "hold anna nobody"), (NoName, "nobody", "hold new nobody"), (NoName, "new", "hold new new"),
            (NoHouse, "anna", "let anna"), (NoHouse, "nobody", "let nobody"), (NoDeed, "far", "done far"),
            (NoDeed, "nobody", "fell nobody"), (NoDeed, "far", "put far zoo k 1"), (NoTable, "zoo", "put anna zoo k 1"),
            (NoTable, "zoo", "cut anna zoo k"), (NoRow, "y", "cut anna one y"), (NoRow, "k", "cut anna two k"),
            (Waits, "anna", "put bert one x 1"), (Waits, "anna", "cut late one x"), (Late, "k", "put late one k 5"),
            (Stopped, (("deed", "late"), ("table", "one"), ("table", "two")), "put bert one y 5"),
            (Stopped, (("deed", "late"), ("table", "one"), ("table", "two")), "cut bert one k"),
            (NoName, "nobody", "rows nobody zoo"), (NoTable, "zoo", "rows anna zoo"), (NoName, "no", "why no one k"),
            (NoTable, "zoo", "why far zoo k"), (NoTable, "zoo", "freeze zoo 99 0"), (NoNumber, 3, "freeze one 3 0"),
            (NoNumber, -1, "freeze one -1 -"), (NoNumber, 999999999999999999, "freeze one 999999999999999999 -"),
            (Looked, "late", "freeze one 1 0"), (NoNumber, 0, "freeze one 0 0"), (NoNumber, -1, "freeze one - -1"),
        ):
            self.refused_line(wanted, value, desk, line)

    def test_of_anything(self):
        desk = Desk(GOOD)
        desk.say("begin anna")
        desk.say("put anna one k 1")
        for thing in no_wholes() + [0, 1, b"next", ("next",), ["next"], ("begin", "anna")]:
            self.refused_line(NoLine, None, desk, thing)

    def test_no_line(self):
        desk = Desk(GOOD)
        desk.say("begin anna")
        desk.say("put anna one k 1")
        for line in (
            "", " ", "\n", "begin", "begin ", "begin  bert", "begin bert ", " begin bert", "begin bert\n", "begin Bert",
            "begin bert carl", "begin abcdefghi", "begin 5", "begin -", "Begin bert", "begins bert", "beginbert",
            "begin\tbert", "begin bert\nbegin carl", "put", "put anna one k", "put anna one k 5 5", "put anna one k 05",
            "put anna one k -0", "put anna one k -", "put anna one k +5", "put anna one k 5.0", "put anna one k A",
            "put anna one k abcdefghi", "put anna one k 1000000000000000000", "put anna one 5 5", "put anna 5 k 5",
            "put 5 one k 5", "put anna one K 5", "put anna one k ", "put anna one k  5", "cut anna one",
            "cut anna one k k", "cut anna one K", "cut anna - k", "done", "done anna anna", "done Anna", "fell",
            "fell 5", "hold", "hold far anna anna", "hold far -", "hold Far", "hold far Anna", "let", "let far far",
            "turn one 0 0", "eldest one 0", "eldest one 15", "turn one 0 15", "work anna", "freeze", "freeze one",
            "freeze one -", "freeze one - - -", "freeze one 15", "freeze one x -", "freeze one - x", "freeze one 015 -",
            "freeze one - 01", "freeze one -0 -", "freeze one - -0", "freeze One - -", "freeze one  -", "freeze - - -",
            "freeze one -- -", "freeze one 1000000000000000000 -", "freeze one - - ", "rows", "rows anna",
            "rows anna one one", "rows anna One", "rows - one", "why", "why anna one", "why anna one k k",
            "why anna one K", "why anna one 5", "fates ", "fates one", "Fates", "fate", "holders one", "holders ",
            "floor one", "floor ", "horizon one", "next one", "next 1", " next", "room one", "room\n", "log log", "log ",
            "logs", "versions one", "lookers", "warned", "eldest", "turn", "len", "none", "-", ".", "next next",
            "anna", "ring 16 7 5 15", "tables one two", "next\r", "\u0661",
        ):
            self.refused_line(NoLine, None, desk, line)

    def test_no_line_goes_ahead_of_the_stores_refusals(self):
        desk = Desk(GOOD)
        for line in ("put nobody zoo K 5", "cut nobody zoo K", "rows nobody Zoo", "freeze zoo x -", "hold nobody No"):
            self.refused_line(NoLine, None, desk, line)


def dash(number):
    return "-" if number is None else str(number)


def told_text(door, told):
    """What a desk tells where a store tells so, as the tests write it."""
    if door == "freeze":
        rows = []
        for (key, worth, maker, ender), now in told:
            behind = "swept" if now is None else f"{dash(now[2])} {dash(now[3])}"
            rows.append(f"{key} {worth} {dash(maker)} {dash(ender)} > {behind}")
        return " ; ".join(rows) or "."
    return "done" if told is None else str(told)


class Beside(Case):
    """Point 4 (h): the desk answers as a store beside it does."""

    def line(self, door, handed, twin):
        if door == "freeze":
            table, upto, most = handed
            return f"freeze {table} {dash(twin.round(upto))} {dash(most)}"
        return " ".join([door] + [str(one) for one in handed if one is not None])

    def answers(self, desk, store):
        self.same(desk.say("log"), str(store) or ".")
        for word in ("floor", "horizon", "next", "room"):
            self.same(desk.say(word), str(getattr(store, word)()))
        self.same(desk.say("fates"), " ; ".join(f"{number} {fate}" for number, fate in store.fates()) or ".")
        self.same(desk.say("holders"), " ; ".join(f"{sort} {name}" for sort, name in store.holders()))
        for name, *_ in store.lookers():
            for table in store.tables:
                rows = store.rows(name, table)
                self.same(desk.say(f"rows {name} {table}"), " ; ".join(f"{key} {worth}" for key, worth in rows) or ".")
                for key in ("a", "d"):
                    found = store.why(name, table, key)
                    wanted = [f"{row[1]} {dash(row[2])} {dash(row[3])} {state}" for row, state in found]
                    self.same(desk.say(f"why {name} {table} {key}"), " ; ".join(wanted) or ".")

    def test_random_runs(self):
        met = set()
        for seed in range(18):
            (ring, stop, warn), tables = SIZES[seed % len(SIZES)], ("one", "two", "zoo")[:1 + seed % 3]
            run = Run(seed, tables, (ring, stop, warn), seed % ring)
            desk = Desk(f"ring {ring} {stop} {warn} {seed % ring}\ntables {' '.join(tables)}")
            for _ in range(150):
                door, handed = run.pick()
                run.told(getattr(run.twin, door), *handed)
                line = self.line(door, handed, run.twin)
                wanted = run.told(run.ask_store, door, handed)
                told = run.told(desk.say, line)
                if wanted[0] == "told":
                    self.same(told, ("told", told_text(door, wanted[1])))
                else:
                    self.same(told, wanted)
                met.add(wanted[0])
                self.answers(desk, run.store)
            self.assertEqual(desk.store, run.store)
            again, signs = come_up(tables, desk.say("log"), ring=ring, stop=stop, warn=warn, first=seed % ring)
            self.same(signs, len(str(run.store)))
        self.assertEqual(met, {"told", "Taken", "NoDeed", "NoRow", "Waits", "Late", "Stopped", "NoName", "NoHouse",
                               "NoNumber", "Looked"})

    def test_its_own_log_said_again(self):
        for seed in range(12):
            run = Run(seed, ("one", "two"), SIZES[seed % 6], 0)
            ring, stop, warn = SIZES[seed % 6]
            for _ in range(120):
                door, handed = run.pick()
                run.told(getattr(run.twin, door), *handed)
                if door != "freeze":
                    run.told(run.ask_store, door, handed)
            desk = Desk(f"ring {ring} {stop} {warn} 0\ntables one two")
            for row in str(run.store).splitlines():
                desk.say(row)
            self.same(face(desk.store), face(run.store))

    def test_desks_are_apart(self):
        one, other = Desk(GOOD), Desk(GOOD)
        one.say("begin anna")
        self.assertRaises(errors.NoDeed, other.say, "done anna")


if __name__ == "__main__":
    unittest.main()
