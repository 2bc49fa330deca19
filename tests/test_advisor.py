"""Points 26 to 30: the advisor."""

import copy
import inspect
import unittest

from tests.advisors import told_by
from tests.things import odd_things
from whatindex.advisor import Advisor
from whatindex.asks import plain
from whatindex.choice import look_best
from whatindex.costs import cost
from whatindex.errors import BadItem, Made, NoDesign, NoItem, NoRow, NoStore, NoTable, NotMade, Taken, TooMany
from whatindex.indexes import Index
from whatindex.shapes import Shape
from whatindex.stores import Store
from whatindex.ways import cheapest, ways

FORM = (("a", "number"), ("b", "word"))
WIDE = tuple((name, "number") for name in "abcdef")
SHAPE = Shape(rows=2, entries=2, fan=2, buckets=1, bits=4)
ROWS = [(1, "x"), (2, "x"), (3, "y")]
TREE, HASH, BITS = ("tree", ("a",)), ("hash", ("b",)), ("bits", ("b",))
ASK = (("b",), (("a", "is", 2),), (), None)
KINDS = (("heap", ()), ("sorted", ("a",)), ("hashed", ("a",)))


def made(rows=ROWS, shape=SHAPE, kind="heap", key=()):
    """An advisor with a table t that has rows, and an empty one u."""
    advisor = Advisor(shape)
    advisor.table("t", FORM, kind, key=key)
    advisor.table("u", FORM, "sorted", key=("a",))
    for row in rows:
        advisor.put("t", row)
    return advisor


class AdvisorTest(unittest.TestCase):
    def refused(self, advisor, error, deed, *told, **more):
        """The refusal, which is of just this sort and changes nothing that is told."""
        ahead, twin, handed = told_by(advisor), copy.deepcopy(advisor), copy.deepcopy((told, more))
        with self.assertRaises(error, msg=(deed, told, more)) as caught:
            getattr(advisor, deed)(*told, **more)
        self.assertIs(type(caught.exception), error)
        self.assertEqual(told_by(advisor), ahead)
        self.assertTrue(advisor == twin)
        self.assertEqual((told, more), handed)
        return caught.exception


class TableTest(AdvisorTest):
    def test_one_to_four_and_a_fifth(self):
        advisor = Advisor()
        for many, name in enumerate(("t", "abcdefgh", "u", "v")):
            self.assertEqual(repr(advisor), f"Advisor({many}, 0, 0)")
            self.assertIsNone(advisor.table(name, FORM))
        self.refused(advisor, TooMany, "table", "w", FORM)
        self.refused(advisor, TooMany, "table", "w", FORM, "sorted", key=("a",))
        self.assertEqual(repr(advisor), "Advisor(4, 0, 0)")
        for name in ("t", "abcdefgh", "u", "v"):
            self.assertEqual(advisor.put(name, (1, "x")), 1)

    def test_kinds_and_keys(self):
        advisor = Advisor(SHAPE)
        advisor.table("h", FORM)
        advisor.table("s", FORM, "sorted", key=("b", "a"))
        advisor.table("x", FORM, kind="hashed", key=("a",))
        question = (("a",), (("a", "is", 1), ("b", "is", "x")), (), None)
        self.assertEqual([way for way, _ in advisor.ways("h", question)], [("walk",)])
        self.assertEqual([way for way, _ in advisor.ways("s", question)], [("walk",), ("key",)])
        self.assertEqual([way for way, _ in advisor.ways("x", question)], [("walk",), ("key",)])

    def test_a_name_that_is_there(self):
        advisor = made()
        self.refused(advisor, Taken, "table", "t", FORM)
        # Ahead of all else, also where the form, kind and key are wrong, and where there are four.
        self.refused(advisor, Taken, "table", "t", None, None, key=None)
        advisor.table("v", FORM)
        advisor.table("w", FORM)
        self.refused(advisor, Taken, "table", "w", FORM)
        self.refused(advisor, Taken, "table", "t", (), "x")

    def test_what_is_no_store(self):
        advisor = made()
        for form in odd_things() + [list(FORM), FORM + FORM]:
            self.assertEqual(self.refused(advisor, NoStore, "table", "v", form).part, "form")
            self.assertEqual(self.refused(advisor, NoStore, "table", "v", form, None, key=None).part, "form")
        for kind in odd_things() + ["tree", "Heap"]:
            self.assertEqual(self.refused(advisor, NoStore, "table", "v", FORM, kind).part, "kind")
            self.assertEqual(self.refused(advisor, NoStore, "table", "v", FORM, kind, key=5).part, "kind")
        for kind, key in (("heap", ("a",)), ("sorted", ()), ("hashed", ()), ("sorted", ("c",)), ("hashed", ["a"])):
            self.assertEqual(self.refused(advisor, NoStore, "table", "v", FORM, kind, key=key).part, "key")
        advisor.table("v", FORM)
        advisor.table("w", FORM)
        self.assertEqual(self.refused(advisor, NoStore, "table", "z", FORM, "x").part, "kind")

    def test_the_shape(self):
        self.assertEqual(made([(1, "x")] * 5, None).ways("t", ASK), [(("walk",), 2)])
        self.assertEqual(made([(1, "x")] * 5, Shape(rows=8)).ways("t", ASK), [(("walk",), 1)])
        self.assertTrue(Advisor() == Advisor(None) == Advisor(Shape()) == Advisor(shape=Shape()))


class NoTableTest(AdvisorTest):
    """A table that there isn't, by any thing, ahead of all else that is wrong."""

    def test_any_name(self):
        advisor = made()
        advisor.watch("t", ("ask", ASK))
        for name in odd_things() + ["v", "T", "tt", "", 1, ("t",), ["t"]]:
            for deed, good, bad in (
                ("put", [(1, "x")], [None]),
                ("drop", [()], [5]),
                ("change", [(), "a", 1], [5, 5, None]),
                ("make", [TREE], [None]),
                ("unmake", [TREE], [None]),
                ("watch", [("ask", ASK)], [None]),
                ("answer", [ASK], [None]),
                ("ways", [ASK], [None]),
            ):
                for more in (good, bad):
                    error = self.refused(advisor, NoTable, deed, name, *more)
                    self.assertEqual(repr(error.name), repr(name))

    def test_the_name_is_kept_as_it_was(self):
        advisor, name = made(), ["t"]
        error = self.refused(advisor, NoTable, "put", name, (1, "x"))
        name.append("u")
        self.assertEqual(error.name, ["t"])

    def test_of_an_advisor_without_tables(self):
        self.assertEqual(self.refused(Advisor(), NoTable, "put", "t", (1, "x")).name, "t")


class EditTest(AdvisorTest):
    def rows(self, advisor, table="t"):
        return advisor.answer(table, (("a", "b"), (), (), None))

    def test_puts(self):
        advisor = made([])
        self.assertEqual([advisor.put("t", row) for row in ROWS], [1, 2, 3])
        self.assertEqual(advisor.put("u", (9, "z")), 1)
        self.assertEqual((self.rows(advisor), self.rows(advisor, "u")), (ROWS, [(9, "z")]))

    def test_what_is_no_row(self):
        advisor = made()
        for row in odd_things() + [[1, "x"], (1,), ("x", 1), (1, "x", 1), (1000, "x"), (True, "x"), None]:
            self.refused(advisor, NoRow, "put", "t", row)

    def test_the_sixtieth_and_one_more(self):
        advisor = made([])
        for number in range(1, 61):
            self.assertEqual(advisor.put("t", (number, "x")), number)
        self.refused(advisor, TooMany, "put", "t", (1, "x"))
        self.refused(advisor, NoRow, "put", "t", (1, 1))
        self.assertEqual(advisor.drop("t", ()), 60)
        self.refused(advisor, TooMany, "put", "t", (1, "x"))
        self.assertEqual(advisor.put("u", (1, "x")), 1)

    def test_drops(self):
        advisor = made()
        self.assertEqual(advisor.drop("t", (("a", "is", 9),)), 0)
        self.assertEqual(self.rows(advisor), ROWS)
        self.assertEqual(advisor.drop("t", (("b", "is", "x"),)), 2)
        self.assertEqual(self.rows(advisor), ROWS[2:])
        self.assertEqual(advisor.drop("t", ()), 1)
        self.assertEqual(self.rows(advisor), [])
        self.assertEqual(advisor.drop("t", ()), 0)
        self.assertEqual(advisor.put("t", (7, "q")), 4)

    def test_changes(self):
        advisor = made()
        self.assertEqual(advisor.change("t", (("a", "is", 9),), "b", "z"), 0)
        self.assertEqual(advisor.change("t", (("a", "is", 1),), "b", "x"), 0)
        self.assertEqual(self.rows(advisor), ROWS)
        # Three are found, one gets another value.
        self.assertEqual(advisor.change("t", (), "b", "x"), 1)
        self.assertEqual(advisor.change("t", (("a", "from", 2, None),), "a", 7), 2)
        self.assertEqual(self.rows(advisor), [(1, "x"), (7, "x"), (7, "x")])

    def test_bad_items(self):
        advisor = made()
        bad = [None, 5, [], (5,), (("a", "is", "x"),), (("c", "is", 1),), (("a", "is", 1),) * 2, [("a", "is", 1)]]
        for thing in bad + odd_things():
            if thing != ():
                self.assertEqual(self.refused(advisor, BadItem, "drop", "t", thing).at, 1)
                self.assertEqual(self.refused(advisor, BadItem, "change", "t", thing, "a", 1).at, 1)
                self.assertEqual(self.refused(advisor, BadItem, "change", "t", thing, "c", None).at, 1)
        for column in odd_things() + ["c", None]:
            self.assertEqual(self.refused(advisor, BadItem, "change", "t", (), column, 1).at, 2)
        for value in odd_things() + ["x", None, 1000]:
            self.assertEqual(self.refused(advisor, BadItem, "change", "t", (), "a", value).at, 3)
        self.assertEqual(self.refused(advisor, BadItem, "change", "t", (), "b", 1).at, 3)

    def test_with_indexes_all_ways_answer_alike(self):
        advisor = made()
        for design in (TREE, HASH, BITS, ("tree", ("b", "a")), ("hash", ("a",)), ("bits", ("a",))):
            advisor.make("t", design)
        advisor.put("t", (2, "z"))
        self.assertEqual(advisor.change("t", (("b", "is", "y"),), "b", "z"), 1)
        self.assertEqual(advisor.drop("t", (("a", "is", 1),)), 1)
        self.assertEqual(self.rows(advisor), [(2, "x"), (3, "z"), (2, "z")])
        self.assertEqual(advisor.answer("t", (("a",), (("b", "is", "z"),), ("a",), None)), [(2,), (3,)])


class MakeTest(AdvisorTest):
    def test_made_and_dropped(self):
        advisor = made()
        self.assertEqual(advisor.made(), [])
        self.assertIsNone(advisor.make("t", TREE))
        self.assertIsNone(advisor.make("u", TREE))
        self.assertIsNone(advisor.make("t", ("bits", ("a",))))
        self.assertEqual(advisor.made(), [("t", "bits", ("a",)), ("t", "tree", ("a",)), ("u", "tree", ("a",))])
        self.refused(advisor, Made, "make", "t", TREE)
        self.assertIsNone(advisor.unmake("t", TREE))
        self.refused(advisor, NotMade, "unmake", "t", TREE)
        self.refused(advisor, NotMade, "unmake", "u", HASH)
        self.assertEqual(advisor.made(), [("t", "bits", ("a",)), ("u", "tree", ("a",))])
        self.assertIsNone(advisor.make("t", TREE))

    def test_what_is_no_design(self):
        advisor = made()
        for thing in odd_things() + [("tree", ("c",)), ("tree", ["a"]), ("bits", ("a", "b")), ("t", "tree", ("a",)), None]:
            self.refused(advisor, NoDesign, "make", "t", thing)
            self.refused(advisor, NoDesign, "unmake", "t", thing)

    def test_an_eleventh_one(self):
        advisor = Advisor()
        advisor.table("t", WIDE)
        advisor.table("u", WIDE)
        for column in "abcdef":
            advisor.make("t", ("tree", (column,)))
        for column in "abcd":
            advisor.make("u", ("hash", (column,)))
        self.assertEqual(len(advisor.made()), 10)
        for table in "tu":
            self.refused(advisor, TooMany, "make", table, ("bits", ("f",)))
            self.refused(advisor, NoDesign, "make", table, ("bits", ("g",)))
        self.refused(advisor, Made, "make", "t", ("tree", ("a",)))
        advisor.unmake("u", ("hash", ("a",)))
        advisor.make("t", ("bits", ("f",)))
        self.refused(advisor, TooMany, "make", "u", ("hash", ("a",)))

    def test_packed_anew(self):
        advisor = made([])
        advisor.make("t", TREE)
        for value in (6, 5, 4, 3, 2, 1):
            advisor.put("t", (value, "x"))
        question = (("a",), (), ("a",), None)
        # Each leaf but the first one has been parted down to one thing.
        self.assertEqual(dict(advisor.ways("t", question))[("only", TREE)], 3 + 5)
        advisor.unmake("t", TREE)
        advisor.make("t", TREE)
        self.assertEqual(dict(advisor.ways("t", question))[("only", TREE)], 2 + 3)


class WatchTest(AdvisorTest):
    def test_numbers(self):
        advisor = made()
        self.assertEqual(len(advisor), 0)
        self.assertEqual([advisor.watch("t", ("ask", ASK)) for _ in range(12)], list(range(1, 13)))
        self.assertEqual(len(advisor), 12)
        self.refused(advisor, TooMany, "watch", "t", ("ask", ASK))
        self.refused(advisor, TooMany, "watch", "u", ("put", (1, "x")), weight=5)
        self.assertEqual(self.refused(advisor, BadItem, "watch", "t", ("put", None)).at, 1)
        self.assertIsNone(advisor.unwatch(12))
        self.assertIsNone(advisor.unwatch(3))
        self.assertEqual(len(advisor), 10)
        # No number is given twice, the last one neither.
        self.assertEqual(advisor.watch("u", ("drop", ())), 13)
        self.assertEqual(advisor.watch("u", ("set", (), "a", 1), weight=100), 14)
        self.refused(advisor, TooMany, "watch", "t", ("ask", ASK))

    def test_what_is_no_item(self):
        advisor = made()
        for thing in odd_things() + [ASK, ["ask", ASK], ("asks", ASK), ("set", ())]:
            self.assertEqual(self.refused(advisor, BadItem, "watch", "t", thing).at, 0)
        self.assertEqual(self.refused(advisor, BadItem, "watch", "t", ("ask", None)).at, 1)
        self.assertEqual(self.refused(advisor, BadItem, "watch", "t", ("set", (), "c", None)).at, 2)
        self.assertEqual(self.refused(advisor, BadItem, "watch", "t", ("set", (), "a", None), weight=7).at, 3)
        self.assertEqual(advisor.watch("t", ("ask", ASK)), 1)

    def test_numbers_that_are_no_items(self):
        advisor = made()
        advisor.watch("t", ("ask", ASK))
        advisor.watch("t", ("ask", ASK))
        advisor.unwatch(1)
        for thing in odd_things() + [0, 1, 3, -1, True, "2", (2,), [2], None, 2.0]:
            self.assertEqual(repr(self.refused(advisor, NoItem, "unwatch", thing).number), repr(thing))
            self.assertEqual(repr(self.refused(advisor, NoItem, "cost", thing).number), repr(thing))
        handed = [2]
        error = self.refused(advisor, NoItem, "cost", handed)
        handed.append(3)
        self.assertEqual(error.number, [2])

    def test_answers_and_ways_by_what_is_no_ask(self):
        advisor = made()
        for thing in odd_things() + [("ask", ASK), ASK[:3], list(ASK), ASK[:3] + (0,), (("c",),) + ASK[1:]]:
            self.assertEqual(self.refused(advisor, BadItem, "answer", "t", thing).at, 1)
            self.assertEqual(self.refused(advisor, BadItem, "ways", "t", thing).at, 1)
            self.assertEqual(self.refused(advisor, BadItem, "ways", "t", thing, also=[TREE]).at, 1)


class ToldTest(AdvisorTest):
    """Answers, ways, costs and what was spent, against stores and indexes that are told the same."""

    def pair(self, kind, key, designs=(TREE, HASH, BITS)):
        """An advisor, and a store with indexes in rising order of designs, told the same."""
        advisor = made([], kind=kind, key=key)
        store = Store(SHAPE, FORM, kind, key=key)
        for row in [(1, "x"), (2, "x"), (3, "y")] * 3:
            advisor.put("t", row)
            store.put(row)
        for design in designs:
            advisor.make("t", design)
        return advisor, store, [Index(store, design) for design in sorted(designs)]

    def test_each_deed_is_spent(self):
        for kind, key in KINDS:
            advisor, store, indexes = self.pair(kind, key)
            for item, many in (
                (("put", (4, "q")), 10), (("drop", (("a", "is", 1),)), 3), (("set", (("b", "is", "x"),), "b", "y"), 3),
                (("set", (), "a", 3), 4), (("drop", (("a", "is", 9),)), 0), (("set", (("a", "is", 3),), "a", 3), 0),
            ):
                finding, pages, keeping = cost(store, indexes, item)
                asks, edits, making = advisor.spent()
                word = {"put": "put", "drop": "drop", "set": "change"}[item[0]]
                self.assertEqual(getattr(advisor, word)("t", *item[1:]), many)
                self.assertEqual(advisor.spent(), (asks, edits + finding + pages + sum(keeping), making))
                self.told_the_same(store, indexes, item)

    def told_the_same(self, store, indexes, item):
        if item[0] == "put":
            number, _ = store.put(item[1])
            for index in indexes:
                index.put(number, item[1])
            return
        everything = (("a", "b"), item[1], (), None)
        for number, row in store.all_rows():
            if row in plain(store, everything):
                word, more = ("drop", ()) if item[0] == "drop" else ("change", item[2:])
                for index in indexes:
                    getattr(index, word)(number, row, *more)
                getattr(store, word)(number, *more)

    def test_puts_spend_by_hand(self):
        advisor = Advisor(SHAPE)
        advisor.table("t", FORM)
        self.assertEqual(advisor.spent(), (0, 0, 0))
        advisor.put("t", (1, "x"))
        self.assertEqual(advisor.spent(), (0, 1, 0))
        advisor.put("t", (2, "x"))
        self.assertEqual(advisor.spent(), (0, 3, 0))
        # The store has one page, the tree one leaf.
        advisor.make("t", TREE)
        self.assertEqual(advisor.spent(), (0, 3, 2))
        # A new page 1; the leaf read, and two written.
        advisor.put("t", (3, "x"))
        self.assertEqual(advisor.spent(), (0, 3 + 1 + 3, 2))
        # Two leaves and one over them; two pages of the store.
        advisor.unmake("t", TREE)
        self.assertEqual(advisor.spent(), (0, 7, 2))
        advisor.make("t", TREE)
        self.assertEqual(advisor.spent(), (0, 7, 2 + 2 + 3))

    def test_making_over_a_sorted_store_counts_its_leaves_alone(self):
        for kind, key in KINDS:
            advisor, store, _ = self.pair(kind, key, [])
            advisor.make("t", BITS)
            self.assertEqual(advisor.spent()[2], len(store.pages()) + Index(store, BITS).size())
        heap = made()
        heap.drop("t", ())
        # Pages without rows are there still.
        heap.make("t", TREE)
        self.assertEqual(heap.spent()[2], 2)

    def test_answers_are_spent_by_the_cheapest_way(self):
        for kind, key in KINDS:
            advisor, store, indexes = self.pair(kind, key)
            asks = 0
            for ask in (ASK, (("a", "b"), (), ("b",), None), (("a",), (("b", "is", "y"),), (), 1)):
                self.assertEqual(advisor.answer("t", ask), plain(store, ask))
                asks += cheapest(store, indexes, ask)[1]
                self.assertEqual(advisor.spent()[0], asks)
                self.assertEqual(advisor.ways("t", ask), ways(store, indexes, ask))
                self.assertEqual(advisor.spent()[0], asks)

    def test_ways_and_costs_with_and_without(self):
        for kind, key in KINDS:
            advisor, store, _ = self.pair(kind, key, [TREE])
            items = (("ask", ASK), ("put", (0, "y")), ("drop", (("b", "is", "y"),)), ("set", (), "b", "z"))
            for item in items:
                advisor.watch("t", item)
            for also, without in (
                ((), ()), ([HASH], ()), ((HASH, BITS), ()), ([BITS, HASH], ()), ((), [TREE]), ([HASH], (TREE,)),
                ([("tree", ("b", "a")), HASH, ("bits", ("a",))], [TREE]),
            ):
                handed = copy.deepcopy((also, without))
                designs = sorted([TREE for _ in range(TREE not in without)] + list(also))
                told = advisor.ways("t", ASK, also=also, without=without)
                self.assertEqual(told, ways(store, [Index(store, design) for design in designs], ASK))
                for number, item in enumerate(items, 1):
                    told = advisor.cost(number, also=also, without=without)
                    self.assertEqual(told, cost(store, [Index(store, design) for design in designs], item))
                self.assertEqual((also, without), handed)
            self.assertEqual(advisor.made(), [("t", *TREE)])

    def test_thought_of_then_made_and_dropped(self):
        advisor = made(ROWS * 4)
        advisor.make("t", TREE)
        advisor.put("t", (2, "q"))
        number = advisor.watch("t", ("set", (("a", "is", 2),), "b", "y"))
        told = advisor.cost(number, also=[BITS]), advisor.ways("t", ASK, also=[BITS])
        bare = advisor.cost(number, without=[TREE]), advisor.ways("t", ASK, without=[TREE])
        advisor.make("t", BITS)
        self.assertEqual((advisor.cost(number), advisor.ways("t", ASK)), told)
        self.assertEqual((advisor.cost(number, without=[BITS, TREE]), advisor.ways("t", ASK, without=[BITS, TREE])), bare)
        advisor.unmake("t", BITS)
        advisor.unmake("t", TREE)
        self.assertEqual((advisor.cost(number), advisor.ways("t", ASK)), bare)

    def test_the_made_ones_as_they_lie(self):
        advisor = made([])
        advisor.make("t", TREE)
        for value in (6, 5, 4, 3, 2, 1):
            advisor.put("t", (value, "x"))
        question = (("a",), (), ("a",), None)
        # Five leaves under three levels, the last one with one thing.
        self.assertEqual(dict(advisor.ways("t", question, also=[BITS]))[("only", TREE)], 3 + 5)
        number = advisor.watch("t", ("put", (7, "x")))
        self.assertEqual(advisor.cost(number, also=[BITS])[2], [2, 3 + 2])

    def test_designs_of_another_table_are_nothing(self):
        advisor = made()
        advisor.make("u", TREE)
        self.assertEqual(advisor.ways("t", ASK), [(("walk",), 2)])
        number = advisor.watch("t", ("put", (1, "x")))
        self.assertEqual(advisor.cost(number), (0, 2, []))

    def test_a_put_is_told_where_sixty_numbers_are_gone(self):
        advisor = made([(1, "x")] * 60)
        advisor.make("t", BITS)
        self.assertEqual(advisor.cost(advisor.watch("t", ("put", (1, "x")))), (0, 1, [1]))


class TouchedTest(AdvisorTest):
    def test_deed_by_deed(self):
        advisor = made(ROWS[:2])
        self.assertEqual(advisor.touched(), [])
        for number, (table, item) in enumerate((("t", ("ask", ASK)), ("t", ("put", (9, "z"))), ("u", ("put", (9, "z")))), 1):
            advisor.watch(table, item)
            self.assertEqual(advisor.touched(), [number])
        # Two pages instead of one, and room in the second one.
        advisor.put("t", (3, "y"))
        self.assertEqual(advisor.touched(), [1, 2])
        advisor.put("t", (4, "y"))
        self.assertEqual(advisor.touched(), [2])
        advisor.put("u", (4, "y"))
        self.assertEqual(advisor.touched(), [3])
        advisor.put("u", (4, "y"))
        self.assertEqual(advisor.touched(), [3])
        # The tree is dearer than the walk, but has to be kept.
        advisor.make("t", TREE)
        self.assertEqual(advisor.touched(), [2])
        advisor.unmake("t", TREE)
        self.assertEqual(advisor.touched(), [2])
        advisor.table("v", FORM)
        self.assertEqual(advisor.touched(), [])

    def test_deeds_that_change_nothing(self):
        advisor = made()
        advisor.watch("t", ("ask", ASK))
        advisor.watch("t", ("put", (1, "x")))
        self.assertEqual(advisor.touched(), [2])
        self.assertEqual(advisor.drop("t", (("a", "is", 9),)), 0)
        self.assertEqual(advisor.change("t", (("a", "is", 9),), "b", "y"), 0)
        self.assertEqual(advisor.change("t", (("a", "is", 1),), "b", "x"), 0)
        advisor.answer("t", ASK)
        advisor.ways("t", ASK)
        advisor.advise(room=9)
        advisor.route([], room=9)
        self.assertEqual(advisor.touched(), [2])
        with self.assertRaises(NoItem):
            advisor.unwatch(7)
        with self.assertRaises(Taken):
            advisor.table("t", FORM)
        self.assertEqual(advisor.touched(), [2])

    def test_deeds_that_touch_none(self):
        advisor = made()
        advisor.watch("t", ("ask", ASK))
        advisor.watch("t", ("ask", ASK))
        advisor.unwatch(1)
        self.assertEqual(advisor.touched(), [])
        advisor.watch("t", ("ask", ASK))
        self.assertEqual(advisor.touched(), [3])
        # A fourth row into the second page: the walk is as long as ahead.
        advisor.put("t", (4, "z"))
        self.assertEqual(advisor.touched(), [])
        advisor.watch("t", ("ask", ASK))
        self.assertEqual(advisor.change("t", (), "b", "x"), 2)
        self.assertEqual(advisor.touched(), [])
        advisor.watch("t", ("ask", ASK))
        advisor.make("u", TREE)
        self.assertEqual(advisor.touched(), [])

    def test_costs_together_are_what_counts(self):
        advisor = made([(1, "x")] * 7 + [(2, "y")])
        advisor.watch("t", ("drop", (("b", "is", "y"),)))
        advisor.watch("t", ("drop", (("b", "is", "x"),)))
        self.assertEqual((advisor.cost(1), advisor.cost(2)), ((4, 2, []), (4, 14, [])))
        advisor.make("t", BITS)
        # The first one is found by 2 pages less, and kept by 2 more.
        self.assertEqual((advisor.cost(1), advisor.cost(2)), ((2, 2, [2]), (4, 14, [14])))
        self.assertEqual(advisor.touched(), [2])
        advisor.unmake("t", BITS)
        self.assertEqual(advisor.touched(), [2])

    def test_the_list_is_the_askers_own(self):
        advisor = made()
        advisor.watch("t", ("ask", ASK))
        told = advisor.touched()
        told.append(9)
        self.assertEqual(advisor.touched(), [1])
        kept = advisor.touched()
        advisor.table("v", FORM)
        self.assertEqual(kept, [1])


class EqualTest(unittest.TestCase):
    def both(self, change):
        """Whether an advisor that is told something more equals one that isn't."""
        told, other = self.full(), self.full()
        self.assertTrue(told == other)
        self.assertFalse(told != other)
        change(told)
        self.assertEqual(told == other, other == told)
        self.assertEqual(told != other, not told == other)
        return told == other

    def full(self):
        advisor = made()
        advisor.make("t", TREE)
        advisor.watch("t", ("ask", ASK), weight=5)
        advisor.watch("t", ("put", (1, "x")))
        return advisor

    def test_unlike(self):
        self.assertFalse(self.both(lambda told: told.table("v", FORM)))
        self.assertFalse(self.both(lambda told: told.put("t", (1, "x"))))
        self.assertFalse(self.both(lambda told: told.put("u", (1, "x"))))
        self.assertFalse(self.both(lambda told: told.drop("t", (("a", "is", 1),))))
        self.assertFalse(self.both(lambda told: told.change("t", (), "b", "z")))
        self.assertFalse(self.both(lambda told: told.make("t", BITS)))
        self.assertFalse(self.both(lambda told: told.make("u", TREE)))
        self.assertFalse(self.both(lambda told: told.unmake("t", TREE)))
        self.assertFalse(self.both(lambda told: told.watch("t", ("ask", ASK))))
        self.assertFalse(self.both(lambda told: told.unwatch(1)))

    def test_shapes_forms_kinds_keys_and_names(self):
        def one(shape=SHAPE, name="t", form=FORM, kind="sorted", key=("a",)):
            advisor = Advisor(shape)
            advisor.table(name, form, kind, key=key)
            return advisor
        self.assertTrue(one() == one())
        self.assertFalse(one() == one(Shape()))
        self.assertFalse(one() == one(name="u"))
        self.assertFalse(one() == one(form=FORM[::-1]))
        self.assertFalse(one() == one(form=(("a", "number"), ("b", "number"))))
        self.assertFalse(one() == one(kind="hashed"))
        self.assertFalse(one() == one(kind="heap", key=()))
        self.assertFalse(one() == one(key=("b",)))
        self.assertFalse(one() == one(key=("a", "b")))
        self.assertFalse(Advisor() == Advisor(SHAPE))
        self.assertTrue(Advisor() == Advisor())

    def test_pages(self):
        told, other = made(ROWS[:2]), made(ROWS[:2])
        told.put("t", (3, "y"))
        told.drop("t", (("a", "is", 3),))
        # The rows are the same, but there is a page without rows now.
        self.assertFalse(told == other)

    def test_numbers_of_rows(self):
        told, other = made(), made()
        told.put("u", (1, "x"))
        told.drop("u", ())
        self.assertTrue(told == other)
        told.put("u", (1, "x"))
        other.put("u", (1, "x"))
        # The same row, by the number 2 here and 1 there.
        self.assertFalse(told == other)

    def test_sizes_of_made_ones(self):
        def grown(rows, first):
            advisor = made([])
            if first:
                advisor.make("t", TREE)
            for row in rows:
                advisor.put("t", row)
            if not first:
                advisor.make("t", TREE)
            return advisor
        rows = [(value, "x") for value in (6, 5, 4, 3, 2, 1)]
        self.assertFalse(grown(rows, True) == grown(rows, False))
        # Of like sizes they are alike, however they lie and whatever was spent.
        self.assertTrue(grown(rows[:2], True) == grown(rows[:2], False))
        self.assertNotEqual(grown(rows[:2], True).spent(), grown(rows[:2], False).spent())

    def test_weights_numbers_and_items(self):
        def watched(*told, drop=()):
            advisor = made()
            for item, weight in told:
                advisor.watch("t", item, weight=weight)
            for number in drop:
                advisor.unwatch(number)
            return advisor
        ask, put = ("ask", ASK), ("put", (1, "x"))
        self.assertTrue(watched((ask, 1)) == watched((ask, 1)))
        self.assertFalse(watched((ask, 1)) == watched((ask, 2)))
        self.assertFalse(watched((ask, 1)) == watched((put, 1)))
        self.assertFalse(watched((ask, 1), (put, 1)) == watched((put, 1), (ask, 1)))
        self.assertFalse(watched((ask, 1), (ask, 1), drop=[1]) == watched((ask, 1)))
        # A number that is gone is nothing that counts.
        self.assertTrue(watched((ask, 1), (ask, 1), drop=[2]) == watched((ask, 1)))
        one, other = made(), made()
        one.watch("t", put)
        other.watch("u", put)
        self.assertFalse(one == other)

    def test_alike(self):
        self.assertTrue(self.both(lambda told: told.answer("t", ASK)))
        self.assertTrue(self.both(lambda told: told.drop("t", (("a", "is", 9),))))
        self.assertTrue(self.both(lambda told: told.change("t", (("a", "is", 1),), "a", 1)))

        def there_and_back(told):
            told.make("t", BITS)
            told.unmake("t", BITS)
            told.unwatch(told.watch("t", ("ask", ASK)))
            told.put("u", (1, "x"))
            told.drop("u", ())
        self.assertTrue(self.both(there_and_back))

    def test_the_order_in_which_they_came_is_nothing(self):
        one, other = Advisor(), Advisor()
        for advisor, names in ((one, "tu"), (other, "ut")):
            for name in names:
                advisor.table(name, FORM)
            for name in names:
                advisor.make(name, TREE)
        self.assertTrue(one == other)

    def test_another_thing(self):
        for thing in odd_things() + [None, "Advisor(0, 0, 0)", Shape(), Store(Shape(), FORM)]:
            self.assertFalse(Advisor() == thing)
            self.assertTrue(Advisor() != thing)

    def test_repr_and_len(self):
        advisor = Advisor()
        self.assertEqual((repr(advisor), len(advisor)), ("Advisor(0, 0, 0)", 0))
        advisor = self.full()
        self.assertEqual((repr(advisor), len(advisor)), ("Advisor(2, 1, 2)", 2))
        advisor.unwatch(1)
        advisor.make("u", TREE)
        self.assertEqual((repr(advisor), len(advisor)), ("Advisor(2, 2, 1)", 1))

    def test_two_share_nothing(self):
        one, other = self.full(), self.full()
        kept = told_by(other)
        one.put("t", (1, "x"))
        one.make("t", BITS)
        one.watch("t", ("ask", ASK))
        one.table("v", FORM)
        self.assertEqual(told_by(other), kept)


class AdviseTest(AdvisorTest):
    def watched(self):
        """Thirty rows in fifteen pages; asks by either column on t, puts on u."""
        advisor = made([(value, "abcde"[value % 5]) for value in range(30)])
        advisor.watch("t", ("ask", ASK), weight=10)
        advisor.watch("t", ("ask", (("a",), (("b", "is", "c"),), (), None)), weight=3)
        advisor.watch("t", ("put", (5, "q")), weight=2)
        advisor.watch("u", ("put", (5, "q")), weight=100)
        return advisor

    NAMED = [("t", "hash", ("a",)), ("t", "tree", ("a",)), ("t", "tree", ("b", "a")), ("u", "tree", ("a",))]

    def test_none_watched(self):
        self.assertEqual(made().advise(room=5), ([], 0, [-1]))
        designs, least, paper = made().advise(room=5, among=self.NAMED)
        self.assertEqual((designs, least), ([], 0))
        self.assertEqual(Advisor().advise(room=0), ([], 0, [-1]))

    def subsets(self, things, size):
        if size == 0:
            return [[]]
        return [[thing] + rest for at, thing in enumerate(things) for rest in self.subsets(things[at + 1:], size - 1)]

    def least(self, advisor, named, room):
        """Going through all sets of designs by the costs that are told of them."""
        best = None
        for size in range(len(named) + 1):
            for chosen in self.subsets(sorted(named), size):
                pages = total = 0
                for each in chosen:
                    twin = copy.deepcopy(advisor)
                    for table, kind, columns in twin.made():
                        twin.unmake(table, (kind, columns))
                    ahead = twin.spent()[2]
                    twin.make(each[0], each[1:])
                    pages += twin.spent()[2] - ahead - len(twin.stores[each[0]].pages())
                if pages > room:
                    continue
                for number in range(1, 5):
                    table, _, weight = advisor.watched[number]
                    bare = [each[1:] for each in advisor.made() if each[0] == table]
                    also = [each[1:] for each in chosen if each[0] == table]
                    also_unmade = [each for each in also if each not in bare]
                    without = [each for each in bare if each not in also]
                    finding, _, keeping = advisor.cost(number, also=also_unmade, without=without)
                    total += weight * (finding + sum(keeping))
                best = total if best is None else min(best, total)
        return best

    def test_least_of_all_sets(self):
        advisor = self.watched()
        for room in (0, 14, 15, 16, 30, 31, 60, 1000):
            handed = self.NAMED[::-1]
            designs, least, paper = advisor.advise(room=room, among=handed)
            self.assertEqual(handed, self.NAMED[::-1])
            self.assertEqual(least, self.least(advisor, self.NAMED, room), room)
            self.assertEqual(designs, sorted(designs))
            self.assertIs(type(paper), list)
        self.assertEqual(advisor.advise(room=0, among=self.NAMED)[0], [])
        self.assertNotEqual(advisor.advise(room=1000, among=self.NAMED)[0], [])

    def test_among_in_any_order(self):
        advisor = self.watched()
        told = advisor.advise(room=40, among=self.NAMED)
        self.assertEqual(advisor.advise(room=40, among=self.NAMED[::-1])[:2], told[:2])
        self.assertEqual(advisor.advise(among=self.NAMED[2:] + self.NAMED[:2], room=40)[:2], told[:2])

    def test_all_as_if_made_anew(self):
        advisor = made([])
        advisor.make("t", ("tree", ("a",)))
        for value in range(30):
            advisor.put("t", (value * 7 % 30, "x"))
        advisor.watch("t", ("ask", (("a",), (("a", "from", 3, 6),), (), None)))
        anew = copy.deepcopy(advisor)
        anew.unmake("t", TREE)
        named = [("t", *TREE)]
        for room in range(20, 45):
            self.assertEqual(advisor.advise(room=room, among=named), anew.advise(room=room, among=named))
        # 30 things in leaves of two, and those over them.
        size = 15 + 8 + 4 + 2 + 1
        self.assertEqual(advisor.advise(room=size - 1, among=named)[0], [])
        self.assertEqual(advisor.advise(room=size, among=named)[0], named)

    def test_among_none_are_the_candidates(self):
        advisor = self.watched()
        told = advisor.advise(room=40)
        self.assertEqual(told, advisor.advise(room=40, among=None))
        self.assertEqual(told, advisor.advise(room=40, among=advisor.candidates()))
        self.assertEqual(advisor.advise(room=40, among=[])[0], [])

    def test_the_stores_part_is_left_out(self):
        advisor = made()
        advisor.watch("t", ("put", (5, "q")), weight=7)
        self.assertEqual(advisor.advise(room=9)[:2], ([], 0))
        advisor.watch("t", ("drop", (("a", "is", 2),)), weight=3)
        self.assertEqual(advisor.advise(room=0)[:2], ([], 3 * 2))

    def test_the_paper_is_by_the_numbers_in_rising_order(self):
        advisor = made([(value, "x") for value in range(30)])
        advisor.watch("t", ("ask", ASK), weight=100)
        advisor.watch("t", ("put", (5, "x")), weight=2)
        named = [("u", "tree", ("a",)), ("t", "tree", ("a",)), ("t", "bits", ("b",))]
        designs, least, paper = advisor.advise(room=1000, among=named)
        # A walk goes through 15 pages; by the tree it is 4 levels, a leaf and a page; a put parts a leaf.
        self.assertEqual((designs, least), ([("t", "tree", ("a",))], 100 * 6 + 2 * 7))
        # The bits are 0, the tree of t is 1, that of u 2.
        task = ([(100, [(15, ()), (6, (1,))]), (2, [(0, ())])], [4, 14, 0], [8, 30, 0])
        self.assertIsNone(look_best(task, ((1,), least, paper), room=1000))
        self.assertIn(1, paper)

    def test_a_table_or_design_that_is_none(self):
        advisor = self.watched()
        for at in range(len(self.NAMED) + 1):
            for table in ("v", "", None, 5, ["t"], ("t",), True):
                among = self.NAMED[:at] + [(table, "tree", ("a",))] + self.NAMED[at:]
                error = self.refused(advisor, NoTable, "advise", room=9, among=among)
                self.assertEqual(repr(error.name), repr(table))
            for kind, columns in (("trees", ("a",)), ("tree", ("c",)), ("tree", ["a"]), (None, None), ("bits", ("a", "b"))):
                among = self.NAMED[:at] + [("t", kind, columns)] + self.NAMED[at:]
                self.refused(advisor, NoDesign, "advise", room=9, among=among)
        wrong_table, wrong_design = ("v", "tree", ("a",)), ("t", "tree", ("c",))
        self.refused(advisor, NoTable, "advise", room=9, among=[wrong_table, wrong_design])
        self.refused(advisor, NoDesign, "advise", room=9, among=[wrong_design, wrong_table])
        self.assertEqual(self.refused(advisor, NoTable, "advise", room=9, among=[("v", None, None)]).name, "v")

    def test_nothing_is_changed_and_all_is_the_askers_own(self):
        advisor = self.watched()
        ahead = told_by(advisor)
        told = advisor.advise(room=40, among=self.NAMED)
        self.assertEqual(told_by(advisor), ahead)
        kept = copy.deepcopy(told)
        told[0].clear()
        told[2].clear()
        self.assertEqual(advisor.advise(room=40, among=self.NAMED), kept)


class RouteTest(AdvisorTest):
    def swap(self):
        """By the tree or the hash the ask is quick; the tree is made."""
        advisor = made([(value, "x") for value in range(20)])
        advisor.make("t", TREE)
        advisor.watch("t", ("ask", ASK))
        return advisor

    TREE_SIZE = 10 + 5 + 3 + 2 + 1
    HASH_SIZE = 10
    OLD, NEW = ("t", "tree", ("a",)), ("t", "hash", ("a",))

    def walked(self, advisor, goal, room):
        """Steps walked on an advisor of its own: each set within the room, each ask within its bound."""
        word, told = advisor.route(goal, room=room)
        self.assertEqual(word, "steps")
        twin = copy.deepcopy(advisor)
        asks = [number for number in range(1, 40) if number in twin.watched and twin.watched[number][1][0] == "ask"]

        def pages():
            return [twin.cost(number)[0] for number in asks]

        def size():
            return sum(index.size() for index in twin.indexes.values())
        seen = [(pages(), size())]
        for deed, (table, kind, columns) in told:
            getattr(twin, {"make": "make", "drop": "unmake"}[deed])(table, (kind, columns))
            seen.append((pages(), size()))
        self.assertEqual(twin.made(), sorted(goal))
        bounds = [max(first, last) for first, last in zip(seen[0][0], seen[-1][0])]
        for found, pages_of in seen:
            self.assertLessEqual(pages_of, room)
            self.assertTrue(all(one <= bound for one, bound in zip(found, bounds)))
        return told

    def test_within_a_room_that_is_just_enough(self):
        advisor = self.swap()
        room = self.TREE_SIZE + self.HASH_SIZE
        wanted = [("make", self.NEW), ("drop", self.OLD)]
        self.assertEqual(advisor.route([self.NEW], room=room), ("steps", wanted))
        self.assertEqual(self.walked(advisor, [self.NEW], room), wanted)
        # The ask takes 6 pages by the tree, 11 by the hash and 10 by a walk, so that it may be dropped first.
        self.assertEqual(advisor.route([self.NEW], room=room - 1), ("steps", wanted[::-1]))
        self.assertEqual(advisor.route([self.NEW], room=self.TREE_SIZE), ("steps", wanted[::-1]))
        self.assertEqual(advisor.route([self.NEW], room=self.TREE_SIZE - 1), ("none", []))

    def quick(self):
        """Both designs are quicker than the walk; the one that has all columns is made."""
        advisor = made([(value, "x") for value in range(20)])
        advisor.make("t", ("tree", ("a", "b")))
        advisor.watch("t", ("ask", ASK))
        return advisor

    def test_one_page_less(self):
        advisor = self.quick()
        old, new = ("t", "tree", ("a", "b")), ("t", "tree", ("a",))
        both = self.TREE_SIZE * 2
        self.assertEqual(advisor.route([new], room=both), ("steps", [("make", new), ("drop", old)]))
        self.walked(advisor, [new], both)
        self.assertEqual(advisor.route([new], room=both - 1), ("none", [(old,)]))
        self.assertEqual(advisor.route([], room=both), ("steps", [("drop", old)]))
        self.assertEqual(advisor.route([old, new], room=both), ("steps", [("make", new)]))
        self.assertEqual(advisor.route([old], room=both), ("steps", []))
        self.assertEqual(advisor.route([old], room=self.TREE_SIZE), ("steps", []))
        self.assertEqual(advisor.route([old], room=self.TREE_SIZE - 1), ("none", []))

    def test_asks_alone_are_bound(self):
        advisor = self.quick()
        old, new = ("t", "tree", ("a", "b")), ("t", "tree", ("a",))
        advisor.unwatch(1)
        advisor.watch("t", ("drop", (("a", "is", 2),)))
        advisor.watch("t", ("set", (("a", "is", 2),), "b", "y"))
        advisor.watch("t", ("put", (1, "x")))
        told = advisor.route([new], room=self.TREE_SIZE)
        self.assertEqual(told, ("steps", [("drop", old), ("make", new)]))

    def test_made_ones_as_they_lie(self):
        advisor = made([])
        advisor.make("t", TREE)
        for value in range(20):
            advisor.put("t", (value * 7 % 20, "x"))
        size = advisor.indexes[self.OLD].size()
        self.assertGreater(size, self.TREE_SIZE)
        self.assertEqual(advisor.route([self.OLD], room=size), ("steps", []))
        self.assertEqual(advisor.route([self.OLD], room=size - 1), ("none", []))
        advisor.unmake("t", TREE)
        self.assertEqual(advisor.route([self.OLD], room=self.TREE_SIZE), ("steps", [("make", self.OLD)]))
        self.assertEqual(advisor.route([self.OLD], room=self.TREE_SIZE - 1), ("none", [()]))

    def test_stands_are_tuples_of_designs(self):
        advisor = made([(value, "x") for value in range(20)])
        goal = [("t", "tree", ("a",)), ("t", "hash", ("b",)), ("t", "bits", ("a",))]
        # Sizes 21, 10 and 20.
        word, told = advisor.route(goal, room=31)
        self.assertEqual(word, "none")
        bits, hashed, tree = sorted(goal)
        self.assertEqual(told, [(), (bits,), (bits, hashed), (hashed,), (hashed, tree), (tree,)])

    def test_over_two_tables(self):
        advisor = self.quick()
        advisor.put("u", (1, "x"))
        goal = [("u", "bits", ("b",)), ("t", "tree", ("a",)), ("u", "tree", ("a",))]
        self.walked(advisor, goal, 1000)
        self.walked(advisor, goal[::-1], self.TREE_SIZE * 2 + 2)

    def test_a_table_or_design_that_is_none(self):
        advisor = self.swap()
        goal = [self.OLD, self.NEW]
        for at in range(3):
            for table in ("v", None, 5, ["t"]):
                wrong = goal[:at] + [(table, "tree", ("a",))] + goal[at:]
                self.assertEqual(repr(self.refused(advisor, NoTable, "route", wrong, room=9).name), repr(table))
            wrong = goal[:at] + [("t", "tree", ("c",))] + goal[at:]
            self.refused(advisor, NoDesign, "route", wrong, room=9)
        self.refused(advisor, NoTable, "route", [("v", "tree", ("a",)), ("t", "tree", ("c",))], room=9)
        self.refused(advisor, NoDesign, "route", [("t", "tree", ("c",)), ("v", "tree", ("a",))], room=9)

    def test_more_than_ten_with_the_made_ones(self):
        advisor = Advisor()
        advisor.table("t", WIDE)
        for column in "abcd":
            advisor.make("t", ("tree", (column,)))
        six = [("t", "hash", (column,)) for column in "abcdef"]
        self.assertEqual(advisor.route(six, room=9)[0], "steps")
        seven = six + [("t", "bits", ("a",))]
        self.refused(advisor, TooMany, "route", seven, room=9)
        # Made ones among the goal are counted once.
        self.assertEqual(advisor.route(six + [("t", "tree", ("a",))], room=9)[0], "steps")
        self.refused(advisor, NoDesign, "route", seven + [("t", "bits", ("g",))], room=9)
        self.refused(advisor, NoTable, "route", seven + [("v", "bits", ("g",))], room=9)

    def test_to_the_advice(self):
        advisor = self.quick()
        advisor.watch("t", ("ask", (("a",), (("b", "is", "x"),), ("a",), 2)), weight=9)
        designs, _, _ = advisor.advise(room=1000)
        self.walked(advisor, designs, 1000)

    def test_nothing_is_changed_and_all_is_the_askers_own(self):
        advisor = self.quick()
        ahead, goal = told_by(advisor), [self.NEW]
        for room in (0, 30, 1000):
            told = advisor.route(goal, room=room)
            kept = copy.deepcopy(told)
            told[1].clear()
            self.assertEqual(advisor.route(goal, room=room), kept)
        self.assertEqual((told_by(advisor), goal), (ahead, [self.NEW]))


class CandidatesTest(AdvisorTest):
    def test_of_watched_items(self):
        advisor = Advisor()
        advisor.table("t", FORM)
        advisor.table("s", FORM)
        self.assertEqual(advisor.candidates(), [])
        advisor.watch("t", ("put", (1, "x")))
        self.assertEqual(advisor.candidates(), [])
        advisor.watch("t", ("ask", (("b",), (), ("b",), None)))
        self.assertEqual(advisor.candidates(), [("t", "tree", ("b",))])
        # A drop needs all columns.
        advisor.watch("s", ("drop", (("b", "is", "x"),)))
        told = [("s", "bits", ("b",)), ("s", "hash", ("b",)), ("s", "tree", ("b",)), ("s", "tree", ("b", "a"))]
        self.assertEqual(advisor.candidates(), told + [("t", "tree", ("b",))])
        advisor.watch("s", ("set", (("b", "is", "y"),), "a", 5))
        self.assertEqual(advisor.candidates(), told + [("t", "tree", ("b",))])
        advisor.watch("t", ("set", (("a", "from", 1, None),), "b", "x"))
        more = [("t", "bits", ("a",)), ("t", "tree", ("a",)), ("t", "tree", ("a", "b")), ("t", "tree", ("b",))]
        self.assertEqual(advisor.candidates(), told + more)
        advisor.unwatch(2)
        self.assertEqual(advisor.candidates(), told + more[:3])

    def test_a_drop_of_a_wide_table(self):
        advisor = Advisor()
        advisor.table("t", WIDE)
        advisor.watch("t", ("drop", (("b", "is", 1),)))
        self.assertEqual(advisor.candidates(), [("t", "bits", ("b",)), ("t", "hash", ("b",)), ("t", "tree", ("b",))])
        advisor.watch("t", ("drop", ()))
        self.assertEqual(len(advisor.candidates()), 3)

    def test_the_first_ten(self):
        advisor = Advisor()
        advisor.table("t", WIDE)
        advisor.table("s", WIDE)
        conditions = tuple((column, "is", 1) for column in "abcdef")
        advisor.watch("t", ("drop", conditions))
        eight = [("bits", (column,)) for column in "abcdef"] + [("hash", tuple("abc")), ("tree", tuple("abcd"))]
        self.assertEqual(advisor.candidates(), [("t", *design) for design in eight])
        advisor.watch("s", ("drop", conditions))
        self.assertEqual(advisor.candidates(), [("s", *design) for design in eight] + [("t", *each) for each in eight[:2]])

    def test_the_list_is_the_askers_own(self):
        advisor = made()
        advisor.watch("t", ("ask", ASK))
        kept = advisor.candidates()
        advisor.candidates().clear()
        self.assertEqual(advisor.candidates(), kept)


class InterfaceTest(unittest.TestCase):
    SIGNATURES = {
        "table": "(self, name, form, kind='heap', *, key=())", "put": "(self, table, row)",
        "drop": "(self, table, conditions)", "change": "(self, table, conditions, column, value)",
        "make": "(self, table, design)", "unmake": "(self, table, design)", "watch": "(self, table, item, *, weight=1)",
        "unwatch": "(self, number)", "answer": "(self, table, ask)", "ways": "(self, table, ask, *, also=(), without=())",
        "cost": "(self, number, *, also=(), without=())", "made": "(self)", "spent": "(self)", "touched": "(self)",
        "advise": "(self, *, room, among=None)", "route": "(self, goal, *, room)", "candidates": "(self)",
        "__eq__": "(self, other)", "__len__": "(self)", "__repr__": "(self)", "__init__": "(self, shape=None)",
    }

    def test_signatures(self):
        for name, wanted in self.SIGNATURES.items():
            self.assertEqual(str(inspect.signature(vars(Advisor)[name])), wanted, name)

    def test_by_names(self):
        advisor = Advisor(shape=SHAPE)
        advisor.table(key=("a",), kind="sorted", form=FORM, name="t")
        self.assertEqual(advisor.put(row=(1, "x"), table="t"), 1)
        self.assertEqual(advisor.change(value=2, column="a", conditions=(), table="t"), 1)
        advisor.make(design=TREE, table="t")
        number = advisor.watch(weight=3, item=("ask", ASK), table="t")
        self.assertEqual(advisor.answer(ask=ASK, table="t"), [("x",)])
        self.assertEqual(len(advisor.ways(without=[TREE], also=[HASH], ask=ASK, table="t")), 2)
        self.assertEqual(advisor.cost(without=[TREE], also=[HASH], number=number)[2], [0])
        self.assertEqual(advisor.route(room=9, goal=[]), ("steps", [("drop", ("t", *TREE))]))
        advisor.unmake(design=TREE, table="t")
        advisor.unwatch(number=number)
        self.assertEqual(advisor.drop(conditions=(), table="t"), 1)

    def test_lists_are_the_askers_own(self):
        advisor = made()
        advisor.make("t", TREE)
        advisor.watch("t", ("put", (1, "x")))
        for told in (
            lambda: advisor.made(), lambda: advisor.ways("t", ASK), lambda: advisor.cost(1)[2],
            lambda: advisor.answer("t", ASK), lambda: advisor.candidates(), lambda: advisor.touched(),
        ):
            kept = copy.deepcopy(told())
            told().append(None)
            self.assertEqual(told(), kept)


if __name__ == "__main__":
    unittest.main()
