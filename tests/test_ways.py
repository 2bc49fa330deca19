"""Points 15 to 18: the ways of an ask, the pages that each touches, and each one run."""

import copy
import inspect
import unittest

from tests.things import odd_things
from whatindex.asks import plain
from whatindex.errors import NoWay
from whatindex.indexes import Index
from whatindex.shapes import Shape
from whatindex.stores import Store
from whatindex.ways import cheapest, run, ways

FORM = (("a", "number"), ("b", "number"), ("c", "number"), ("w", "word"))
SHAPE = Shape(rows=2, entries=2, fan=2, buckets=4, bits=4)


def tree(*columns):
    return ("tree", columns)


def hashed(*columns):
    return ("hash", columns)


def bits(column):
    return ("bits", (column,))


def row(a, b=0, c=0, w="x"):
    return (a, b, c, w)


def made(rows, kind="heap", key=(), designs=(), shape=SHAPE):
    """A store with rows, and indexes of it."""
    store = Store(shape, FORM, kind, key=key)
    for each in rows:
        store.put(each)
    return store, [Index(store, design) for design in designs]


def ask(*conditions, wants=("c",), order=(), first=None):
    return (wants, conditions, order, first)


class WayTest(unittest.TestCase):
    def check(self, store, indexes, question):
        """The ways as a dict; each one run answers as the plain answer and touches as was told."""
        told = ways(store, indexes, question)
        for way, touched in told:
            self.assertEqual(run(store, indexes, question, way), (plain(store, question), touched), way)
        fewest = min(touched for way, touched in told)
        self.assertEqual(cheapest(store, indexes, question), [each for each in told if each[1] == fewest][0])
        return dict(told)

    def names(self, store, indexes, question):
        self.check(store, indexes, question)
        return [way for way, touched in ways(store, indexes, question)]


class WhichTest(WayTest):
    """Which ways there are, and in which order."""

    ROWS = [row(1, 2, 3), row(4, 5, 6)]

    def test_no_index(self):
        store, _ = made(self.ROWS)
        self.assertEqual(self.names(store, [], ask()), [("walk",)])
        self.assertEqual(self.names(store, [], ask(("a", "is", 1))), [("walk",)])

    def test_the_key_of_a_sorted_store(self):
        store, _ = made(self.ROWS, "sorted", ("a", "b"))
        for question in (ask(), ask(("a", "is", 1)), ask(("b", "is", 1)), ask(("c", "is", 1))):
            self.assertEqual(self.names(store, [], question), [("walk",), ("key",)])

    def test_the_key_of_a_hashed_store(self):
        store, _ = made(self.ROWS, "hashed", ("a", "b"))
        self.assertEqual(self.names(store, [], ask(("b", "is", 2), ("a", "is", 1))), [("walk",), ("key",)])
        for conditions in ([], [("a", "is", 1)], [("b", "is", 1)], [("a", "is", 1), ("b", "from", 2, 2)]):
            self.assertEqual(self.names(store, [], ask(*conditions)), [("walk",)])

    def test_a_tree_always(self):
        store, indexes = made(self.ROWS, designs=[tree("a", "b")])
        for conditions in ([], [("b", "is", 1)], [("c", "is", 1)], [("a", "from", 1, None)]):
            told = self.names(store, indexes, ask(*conditions))
            self.assertEqual(told, [("walk",), ("index", tree("a", "b"))])

    def test_a_hash_whose_columns_are_all_fixed(self):
        store, indexes = made(self.ROWS, designs=[hashed("a", "b")])
        told = self.names(store, indexes, ask(("b", "is", 1), ("c", "is", 0), ("a", "is", 1)))
        self.assertEqual(told, [("walk",), ("index", hashed("a", "b"))])
        for conditions in ([], [("a", "is", 1)], [("a", "is", 1), ("b", "from", 1, 1)]):
            self.assertEqual(self.names(store, indexes, ask(*conditions)), [("walk",)])

    def test_bits_whose_column_has_a_condition(self):
        store, indexes = made(self.ROWS, designs=[bits("a")])
        for condition in (("a", "is", 1), ("a", "from", 1, None), ("a", "from", None, 1), ("a", "from", 5, 1)):
            self.assertEqual(self.names(store, indexes, ask(condition)), [("walk",), ("index", bits("a"))])
        self.assertEqual(self.names(store, indexes, ask()), [("walk",)])
        self.assertEqual(self.names(store, indexes, ask(("b", "is", 1))), [("walk",)])

    def test_only_where_the_tree_has_all_columns(self):
        design = tree("c", "a", "b")
        store, indexes = made(self.ROWS, designs=[design])
        for question in (
            ask(), ask(("a", "is", 1)), ask(("b", "from", 1, None), order=("a",)), ask(wants=("a", "b", "c"), first=1),
        ):
            self.assertEqual(self.names(store, indexes, question), [("walk",), ("index", design), ("only", design)])
        for question in (ask(("w", "is", "x")), ask(order=("w",)), ask(wants=("c", "w")), ask(wants=("w",))):
            self.assertEqual(self.names(store, indexes, question), [("walk",), ("index", design)])

    def test_a_hash_or_bits_are_never_gone_by_only(self):
        store, indexes = made(self.ROWS, designs=[hashed("a"), bits("a")])
        told = self.names(store, indexes, ask(("a", "is", 1), wants=("a",)))
        wanted = [("walk",), ("index", bits("a")), ("index", hashed("a")), ("both", bits("a"), hashed("a"))]
        self.assertEqual(told, wanted)

    def test_both(self):
        designs = [tree("a"), tree("b", "a"), tree("c", "a"), hashed("a"), hashed("a", "b"), bits("b"), bits("c")]
        store, indexes = made(self.ROWS, designs=designs)
        told = self.names(store, indexes, ask(("a", "is", 1), ("b", "from", 1, 3), wants=("w",)))
        self.assertEqual(told, [
            ("walk",),
            ("index", bits("b")), ("index", hashed("a")),
            ("index", tree("a")), ("index", tree("b", "a")), ("index", tree("c", "a")),
            ("both", bits("b"), hashed("a")), ("both", bits("b"), tree("a")), ("both", bits("b"), tree("b", "a")),
            ("both", hashed("a"), tree("a")), ("both", hashed("a"), tree("b", "a")),
            ("both", tree("a"), tree("b", "a")),
        ])

    def test_both_needs_a_condition_on_a_trees_first_column(self):
        store, indexes = made(self.ROWS, designs=[tree("a", "b"), tree("c", "b"), bits("b")])
        told = self.names(store, indexes, ask(("b", "is", 1), wants=("w",)))
        wanted = [("walk",), ("index", bits("b")), ("index", tree("a", "b")), ("index", tree("c", "b"))]
        self.assertEqual(told, wanted)

    def test_the_whole_order_whatever_the_order_of_the_indexes(self):
        designs = [tree("a", "c"), tree("a"), bits("a"), hashed("a"), tree("c", "a")]
        question = ask(("a", "is", 1))
        wanted = [
            ("walk",), ("key",),
            ("index", bits("a")), ("index", hashed("a")), ("index", tree("a")), ("index", tree("a", "c")),
            ("index", tree("c", "a")),
            ("only", tree("a", "c")), ("only", tree("c", "a")),
            ("both", bits("a"), hashed("a")), ("both", bits("a"), tree("a")), ("both", bits("a"), tree("a", "c")),
            ("both", hashed("a"), tree("a")), ("both", hashed("a"), tree("a", "c")),
            ("both", tree("a"), tree("a", "c")),
        ]
        store, indexes = made(self.ROWS, "sorted", ("a",), designs)
        self.assertEqual(self.names(store, indexes, question), wanted)
        self.assertEqual(self.names(store, indexes[::-1], question), wanted)
        self.assertEqual(self.names(store, tuple(indexes), question), wanted)


class WalkTest(WayTest):
    def test_all_pages_of_a_heap(self):
        store, _ = made([row(a) for a in range(5)])
        self.assertEqual(self.check(store, [], ask(("a", "is", 1)))[("walk",)], 3)

    def test_a_heaps_pages_without_rows_count(self):
        store, _ = made([row(a) for a in range(5)])
        for number in (3, 4, 5):
            store.drop(number)
        self.assertEqual(self.check(store, [], ask())[("walk",)], 3)
        for number in (1, 2):
            store.drop(number)
        self.assertEqual(self.check(store, [], ask()), {("walk",): 3})

    def test_of_a_run_its_leaves_alone(self):
        store, _ = made([row(a) for a in range(5)], "sorted", ("a",))
        self.assertEqual(len(store.pages()), 3)
        self.assertEqual(self.check(store, [], ask())[("walk",)], 3)

    def test_of_buckets_all_pages(self):
        store, _ = made([row(a) for a in (0, 4, 8, 1)], "hashed", ("a",))
        self.assertEqual(self.check(store, [], ask())[("walk",)], 3)

    def test_a_first_saves_nothing(self):
        store, _ = made([row(a) for a in range(5)])
        self.assertEqual(self.check(store, [], ask(first=1))[("walk",)], 3)
        self.assertEqual(self.check(store, [], ask(("a", "is", 0), order=("a",), first=1))[("walk",)], 3)


class NoRowsTest(WayTest):
    DESIGNS = [tree("a"), tree("a", "c"), hashed("a"), bits("a")]

    def test_nothing_is_touched(self):
        for kind, key in (("heap", ()), ("sorted", ("a",)), ("hashed", ("a",))):
            store, indexes = made([], kind, key, self.DESIGNS)
            for question in (ask(("a", "is", 1)), ask(("a", "from", 1, 5), order=("c",)), ask(("a", "is", 1), first=3)):
                told = self.check(store, indexes, question)
                self.assertEqual(set(told.values()), {0})

    def test_the_cheapest_is_the_first(self):
        store, indexes = made([], "sorted", ("a",), self.DESIGNS)
        self.assertEqual(cheapest(store, indexes, ask(("a", "is", 1))), (("walk",), 0))


class SortedKeyTest(WayTest):
    def setUp(self):
        # Leaves by a and b: [11 12] [21 22] [23 31] [32 33] [34]: five, under a fan of two three levels.
        values = [(1, 1), (1, 2), (2, 1), (2, 2), (2, 3), (3, 1), (3, 2), (3, 3), (3, 4)]
        self.store, _ = made([row(a, b, c=a * 10 + b) for a, b in values], "sorted", ("a", "b"))
        self.assertEqual(self.store.pages(), [[1, 2], [3, 4], [5, 6], [7, 8], [9]])

    def told(self, *conditions, **more):
        return self.check(self.store, [], ask(*conditions, **more))[("key",)]

    def test_levels_and_the_leaves_of_the_stretch(self):
        self.assertEqual(self.told(("a", "is", 1)), 3 + 1)
        self.assertEqual(self.told(("a", "is", 2)), 3 + 2)
        self.assertEqual(self.told(("a", "is", 3)), 3 + 3)
        self.assertEqual(self.told(("a", "is", 3), ("b", "is", 4)), 3 + 1)
        self.assertEqual(self.told(), 3 + 5)

    def test_bounds_behind_the_lead(self):
        self.assertEqual(self.told(("a", "is", 2), ("b", "from", 2, None)), 3 + 2)
        self.assertEqual(self.told(("a", "is", 2), ("b", "from", None, 1)), 3 + 1)
        self.assertEqual(self.told(("a", "is", 3), ("b", "from", 2, 3)), 3 + 1)
        self.assertEqual(self.told(("a", "from", 1, 2)), 3 + 3)

    def test_bounds_that_are_not_behind_the_lead(self):
        # By a alone, or by nothing: a condition on b does not narrow the stretch.
        self.assertEqual(self.told(("a", "from", 1, 2), ("b", "is", 1)), 3 + 3)
        self.assertEqual(self.told(("b", "is", 1)), 3 + 5)
        self.assertEqual(self.told(("b", "from", 1, 1)), 3 + 5)

    def test_no_leaf_of_the_stretch_is_one(self):
        self.assertEqual(self.told(("a", "is", 7)), 3 + 1)
        self.assertEqual(self.told(("a", "from", 3, 1)), 3 + 1)
        self.assertEqual(self.told(("a", "is", 7), order=("b",), first=3), 3 + 1)

    def test_a_first_with_an_order_that_the_key_gives(self):
        self.assertEqual(self.told(order=("a", "b"), first=1), 3 + 1)
        self.assertEqual(self.told(order=("a", "b"), first=3), 3 + 2)
        self.assertEqual(self.told(order=("a", "b"), first=9), 3 + 5)
        self.assertEqual(self.told(order=("a", "b"), first=20), 3 + 5)
        self.assertEqual(self.told(("a", "is", 2), order=("b",), first=3), 3 + 2)
        self.assertEqual(self.told(("a", "is", 2), order=("a", "b"), first=1), 3 + 1)
        self.assertEqual(self.told(("a", "is", 2), order=("b", "a"), first=1), 3 + 1)

    def test_one_goes_on_till_so_many_are_found(self):
        # b is 3 in the third leaf and in the fourth.
        self.assertEqual(self.told(("b", "is", 3), order=("a",), first=1), 3 + 3)
        self.assertEqual(self.told(("b", "is", 3), order=("a", "b"), first=1), 3 + 3)
        self.assertEqual(self.told(("b", "is", 3), order=("a",), first=2), 3 + 4)
        # There is no third one, so one goes along all the stretch.
        self.assertEqual(self.told(("b", "is", 3), order=("a",), first=3), 3 + 5)
        # c isn't of the key, but a row that doesn't meet it isn't found.
        self.assertEqual(self.told(("c", "is", 22), order=("a", "b"), first=1), 3 + 2)

    def test_stops_at_the_last_thing_of_a_leaf(self):
        self.assertEqual(self.told(("a", "is", 3), order=("b",), first=1), 3 + 1)
        self.assertEqual(self.told(("a", "is", 3), order=("b",), first=3), 3 + 2)
        self.assertEqual(self.told(("a", "is", 3), order=("b",), first=4), 3 + 3)
        self.assertEqual(self.told(order=("a", "b"), first=2), 3 + 1)

    def test_a_first_with_an_order_that_the_key_does_not_give(self):
        # All nine rows are sorted: five pages are begun, each counts twice.
        self.assertEqual(self.told(order=("a",), first=1), 3 + 5 + 10)
        self.assertEqual(self.told(order=("b", "a"), first=1), 3 + 5 + 10)
        self.assertEqual(self.told(order=("a", "b", "c"), first=1), 3 + 5 + 10)
        self.assertEqual(self.told(("a", "is", 2), order=("c",), first=1), 3 + 2 + 4)

    def test_a_first_without_an_order(self):
        # No order is that of the numbers, which the key gives where all of it is fixed.
        self.assertEqual(self.told(first=1), 3 + 5)
        self.assertEqual(self.told(("a", "is", 2), first=1), 3 + 2)
        self.assertEqual(self.told(("a", "is", 2), ("b", "is", 3), first=1), 3 + 1)

    def test_an_order_that_the_key_gives_wants_no_sorting(self):
        self.assertEqual(self.told(order=("a", "b")), 3 + 5)
        self.assertEqual(self.told(("a", "is", 3), order=("b",)), 3 + 3)
        self.assertEqual(self.told(("b", "is", 1), order=("a",)), 3 + 5)

    def test_all_alike(self):
        store, _ = made([row(5) for _ in range(7)], "sorted", ("a",))
        self.assertEqual([len(page) for page in store.pages()], [2, 2, 2, 1])
        self.assertEqual(self.check(store, [], ask(("a", "is", 5), first=3))[("key",)], 2 + 2)
        self.assertEqual(self.check(store, [], ask(("a", "is", 5)))[("key",)], 2 + 4)

    def test_one_leaf_has_no_level(self):
        store, _ = made([row(1), row(2)], "sorted", ("a",))
        self.assertEqual(self.check(store, [], ask(("a", "is", 1)))[("key",)], 1)
        self.assertEqual(self.check(store, [], ask(("a", "is", 3)))[("key",)], 1)


class HashedKeyTest(WayTest):
    def test_the_pages_of_the_bucket(self):
        store, _ = made([row(a) for a in (0, 4, 8, 4, 12, 1)], "hashed", ("a",))
        self.assertEqual(self.check(store, [], ask(("a", "is", 4)))[("key",)], 3)
        self.assertEqual(self.check(store, [], ask(("a", "is", 1)))[("key",)], 1)
        # A value that no row has, in a bucket with pages and in one without.
        self.assertEqual(self.check(store, [], ask(("a", "is", 16)))[("key",)], 3)
        self.assertEqual(self.check(store, [], ask(("a", "is", 2)))[("key",)], 0)

    def test_it_gives_no_order(self):
        store, _ = made([row(4, c=c) for c in (3, 1, 2)], "hashed", ("a",))
        question = ask(("a", "is", 4), order=("c",), first=1)
        self.assertEqual(self.check(store, [], question)[("key",)], 2 + 4)
        question = ask(("a", "is", 4), order=("a",))
        self.assertEqual(self.check(store, [], question)[("key",)], 2 + 4)


class TreeTest(WayTest):
    def setUp(self):
        # Six rows on three pages of a heap; the tree's leaves are [6 5] [4 3] [2 1] by their numbers.
        rows = [row(a, b) for a, b in ((6, 0), (5, 1), (4, 0), (3, 1), (2, 0), (1, 1))]
        self.store, self.indexes = made(rows, designs=[tree("a"), tree("b", "a")])

    def told(self, way, *conditions, **more):
        return self.check(self.store, self.indexes, ask(*conditions, **more))[way]

    def test_levels_leaves_and_the_stores_pages(self):
        way = ("index", tree("a"))
        self.assertEqual(self.told(way, ("a", "is", 4)), 2 + 1 + 1)
        # Rows 4 and 3: one leaf, one page of the store.
        self.assertEqual(self.told(way, ("a", "from", 3, 4)), 2 + 1 + 1)
        # Rows 5 and 4: two leaves, two pages.
        self.assertEqual(self.told(way, ("a", "from", 2, 3)), 2 + 2 + 2)
        self.assertEqual(self.told(way), 2 + 3 + 3)

    def test_none_of_the_stretch(self):
        self.assertEqual(self.told(("index", tree("a")), ("a", "is", 9)), 2 + 1)
        self.assertEqual(self.told(("index", tree("a")), ("a", "from", 4, 3)), 2 + 1)

    def test_each_page_once(self):
        # By (b, a): rows 5 3 1 then 6 4 2; those with b 0 are on three pages.
        way = ("index", tree("b", "a"))
        self.assertEqual(self.told(way, ("b", "is", 0)), 2 + 2 + 3)
        self.assertEqual(self.told(way), 2 + 3 + 3)

    def test_things_that_do_not_meet_the_designs_columns_lead_to_no_page(self):
        # No lead, so all leaves; but of the things those with a from 3 to 4 alone lead on.
        way = ("index", tree("b", "a"))
        self.assertEqual(self.told(way, ("a", "from", 3, 4)), 2 + 3 + 1)
        self.assertEqual(self.told(way, ("a", "is", 9)), 2 + 3 + 0)

    def test_conditions_on_other_columns_still_lead_to_the_page(self):
        self.assertEqual(self.told(("index", tree("a")), ("b", "is", 9)), 2 + 3 + 3)

    def test_a_first_with_an_order_that_the_columns_give(self):
        way = ("index", tree("a"))
        self.assertEqual(self.told(way, order=("a",), first=1), 2 + 1 + 1)
        self.assertEqual(self.told(way, order=("a",), first=2), 2 + 1 + 1)
        self.assertEqual(self.told(way, order=("a",), first=3), 2 + 2 + 2)
        self.assertEqual(self.told(way, order=("a",), first=20), 2 + 3 + 3)
        # The second with b 0 is row 3, in the second leaf and the second page.
        self.assertEqual(self.told(way, ("b", "is", 0), order=("a",), first=2), 2 + 2 + 2)
        self.assertEqual(self.told(way, ("b", "is", 0), order=("a", "b"), first=2), 2 + 2 + 2)
        self.assertEqual(self.told(way, ("a", "is", 9), order=("a",), first=2), 2 + 1)

    def test_a_first_where_rows_that_do_not_meet_are_come_to(self):
        # Rows 6 and 5 in turn: row 6 has b 1, so its page is come to for nothing; it is row 5's, too.
        self.assertEqual(self.told(("index", tree("a")), ("b", "is", 0), order=("a",), first=1), 2 + 1 + 1)
        # Of (b, a) things whose own values don't meet lead to no page on the road.
        self.assertEqual(self.told(("index", tree("b", "a")), ("a", "is", 4), order=("b",), first=1), 2 + 1 + 1)

    def test_a_first_with_an_order_that_the_columns_do_not_give(self):
        # Six rows begin three pages of two, each twice.
        self.assertEqual(self.told(("index", tree("a")), order=("b",), first=1), 2 + 3 + 3 + 6)
        self.assertEqual(self.told(("index", tree("a")), order=("a", "b"), first=1), 2 + 3 + 3 + 6)
        self.assertEqual(self.told(("index", tree("b", "a")), order=("b",), first=1), 2 + 3 + 3 + 6)
        self.assertEqual(self.told(("index", tree("b", "a")), order=("a",), first=1), 2 + 3 + 3 + 6)

    def test_a_first_without_an_order(self):
        self.assertEqual(self.told(("index", tree("a")), first=1), 2 + 3 + 3)
        self.assertEqual(self.told(("index", tree("a")), ("a", "is", 4), first=1), 2 + 1 + 1)

    def test_only(self):
        way = ("only", tree("b", "a"))
        self.assertEqual(self.told(way, ("b", "is", 1), wants=("a",)), 2 + 2)
        self.assertEqual(self.told(way, ("b", "is", 1), wants=("a",), order=("a",), first=1), 2 + 1)
        self.assertEqual(self.told(way, ("b", "is", 1), wants=("a", "b"), order=("a",), first=2), 2 + 2)
        self.assertEqual(self.told(way, ("a", "from", 1, 2), wants=("b",)), 2 + 3)
        self.assertEqual(self.told(way, wants=("a",), order=("a",)), 2 + 3 + 6)
        self.assertEqual(self.told(way, wants=("a",), order=("b", "a")), 2 + 3)
        self.assertEqual(self.told(way, ("b", "is", 7), wants=("a",)), 2 + 1)
        self.assertEqual(self.told(("only", tree("a")), ("a", "is", 2), wants=("a",)), 2 + 1)

    def test_over_a_sorted_store_its_leaves_alone_are_come_to(self):
        rows = [row(a, b) for a, b in ((6, 0), (5, 1), (4, 0), (3, 1), (2, 0), (1, 1))]
        store, indexes = made(rows, "sorted", ("b", "a"), [tree("a")])
        told = self.check(store, indexes, ask(("a", "is", 4)))
        self.assertEqual(told[("index", tree("a"))], 2 + 1 + 1)

    def test_a_heap_with_a_page_without_rows(self):
        self.store.drop(1)
        self.store.drop(2)
        self.indexes = [Index(self.store, tree("a"))]
        self.assertEqual(self.told(("index", tree("a"))), 1 + 2 + 2)
        self.assertEqual(self.told(("walk",)), 3)


class HashAndBitsTest(WayTest):
    def setUp(self):
        # Numbers 1 to 8 on pages [1 2] [3 4] [5 6] [7 8]; a bits' page stands for four numbers.
        values = [(0, 1), (4, 1), (0, 2), (4, 3), (0, 1), (1, 2), (8, 3), (0, 4)]
        self.store, self.indexes = made([row(a, b) for a, b in values], designs=[hashed("a"), bits("a"), bits("b")])

    def told(self, way, *conditions, **more):
        return self.check(self.store, self.indexes, ask(*conditions, **more))[way]

    def test_a_hash(self):
        way = ("index", hashed("a"))
        # 0, 4 and 8 share a bucket with seven things on four pages.
        self.assertEqual(self.told(way, ("a", "is", 0)), 4 + 4)
        self.assertEqual(self.told(way, ("a", "is", 4)), 4 + 2)
        self.assertEqual(self.told(way, ("a", "is", 8)), 4 + 1)
        self.assertEqual(self.told(way, ("a", "is", 12)), 4 + 0)
        self.assertEqual(self.told(way, ("a", "is", 1)), 1 + 1)
        self.assertEqual(self.told(way, ("a", "is", 2)), 0)

    def test_bits_by_is(self):
        way = ("index", bits("b"))
        # 1 has the numbers 1, 2 and 5: two pages of bits, two of the store.
        self.assertEqual(self.told(way, ("b", "is", 1)), 2 + 2)
        self.assertEqual(self.told(way, ("b", "is", 4)), 1 + 1)
        self.assertEqual(self.told(way, ("b", "is", 9)), 0)

    def test_bits_by_from(self):
        way = ("index", bits("b"))
        # 1 on two pages, 2 on two, 3 on two, 4 on one.
        self.assertEqual(self.told(way, ("b", "from", 1, 2)), 4 + 3)
        self.assertEqual(self.told(way, ("b", "from", 3, None)), 3 + 2)
        self.assertEqual(self.told(way, ("b", "from", None, 4)), 7 + 4)
        self.assertEqual(self.told(way, ("b", "from", 4, 1)), 0)

    def test_other_conditions_still_lead_to_the_page(self):
        self.assertEqual(self.told(("index", bits("b")), ("b", "is", 1), ("c", "is", 9)), 2 + 2)

    def test_they_give_no_order(self):
        # Four rows with a 0: two pages of two, twice.
        for order in (("b",), ("a",)):
            self.assertEqual(self.told(("index", hashed("a")), ("a", "is", 0), order=order, first=1), 4 + 4 + 4)
            self.assertEqual(self.told(("index", bits("a")), ("a", "is", 0), order=order), 2 + 4 + 4)

    def test_both(self):
        # a 0: 1 3 5 8; b 1: 1 2 5: both come to 1 and 5, on two pages.
        conditions = (("a", "is", 0), ("b", "is", 1))
        self.assertEqual(self.told(("both", bits("a"), bits("b")), *conditions), 2 + 2 + 2)
        self.assertEqual(self.told(("both", bits("b"), hashed("a")), *conditions), 2 + 4 + 2)
        # Both come to the same rows, each page is counted once.
        self.assertEqual(self.told(("both", bits("a"), hashed("a")), *conditions), 2 + 4 + 4)

    def test_both_that_share_no_row(self):
        conditions = (("a", "is", 1), ("b", "is", 3))
        self.assertEqual(self.told(("both", bits("a"), bits("b")), *conditions), 1 + 2 + 0)

    def test_both_with_an_order(self):
        conditions = (("a", "is", 0), ("b", "from", 1, 4))
        way = ("both", bits("a"), bits("b"))
        self.assertEqual(self.told(way, *conditions), 2 + 7 + 4)
        self.assertEqual(self.told(way, *conditions, order=("c",), first=1), 2 + 7 + 4 + 4)

    def test_both_with_a_tree(self):
        self.indexes.append(Index(self.store, tree("a", "b")))
        # The tree by (a, b): [1 5] [3 8] [6 2] [4 7]; a stretch by a and b both.
        conditions = (("a", "is", 0), ("b", "is", 1))
        self.assertEqual(self.told(("both", bits("b"), tree("a", "b")), *conditions), 2 + (2 + 1) + 2)
        # By a from a low one on: all leaves, but the things that meet b, too, are come to alone.
        conditions = (("a", "from", 0, None), ("b", "is", 3))
        self.assertEqual(self.told(("both", bits("a"), tree("a", "b")), *conditions), 5 + (2 + 4) + 2)
        # A first does not stop a pair.
        conditions = (("a", "is", 0), ("b", "from", 1, 4))
        told = self.told(("both", bits("b"), tree("a", "b")), *conditions, order=("b",), first=1)
        self.assertEqual(told, 7 + (2 + 2) + 4 + 4)


class SortingTest(WayTest):
    def told(self, many, size, order=("b",), **more):
        store, _ = made([row(1, -b) for b in range(many)] + [row(2)] * 3, shape=Shape(rows=size))
        question = ask(("a", "is", 1), order=order, **more)
        pages = len(store.pages())
        return self.check(store, [], question)[("walk",)] - pages

    def test_as_many_rows_as_a_page_has_and_one_more(self):
        for size in range(2, 9):
            self.assertEqual(self.told(size, size), 0)
            self.assertEqual(self.told(size + 1, size), 4)
            self.assertEqual(self.told(2 * size, size), 4)
            self.assertEqual(self.told(2 * size + 1, size), 6)

    def test_none_without_an_order(self):
        self.assertEqual(self.told(9, 2, order=()), 0)

    def test_rows_that_do_not_meet_the_conditions_do_not_count(self):
        self.assertEqual(self.told(2, 2), 0)
        self.assertEqual(self.told(0, 2), 0)

    def test_a_first_does_not_spare_it(self):
        self.assertEqual(self.told(9, 4, first=1), 6)

    def test_a_fixed_order_is_an_order(self):
        self.assertEqual(self.told(5, 4, order=("a",)), 4)

    def test_the_shape_says_rows_not_entries(self):
        shape = Shape(rows=4, entries=2)
        store, indexes = made([row(1, b) for b in range(4)], designs=[tree("a")], shape=shape)
        told = self.check(store, indexes, ask(order=("b",)))
        self.assertEqual(told[("walk",)], 1)
        self.assertEqual(told[("index", tree("a"))], 1 + 2 + 1)


class CheapestTest(WayTest):
    def test_the_first_of_equal_ones(self):
        store, indexes = made([row(1), row(2)], "sorted", ("a",), [tree("a"), hashed("a")])
        question = ask(("a", "is", 1), wants=("a",))
        told = ways(store, indexes, question)
        self.assertEqual(told[0], (("walk",), 1))
        self.assertEqual(told[1], (("key",), 1))
        self.assertEqual(cheapest(store, indexes, question), (("walk",), 1))

    def test_a_later_one_that_touches_fewer(self):
        store, indexes = made([row(a) for a in range(20)], designs=[tree("a"), tree("c", "a"), hashed("a")])
        self.assertEqual(cheapest(store, indexes, ask(("a", "is", 7)))[0], ("index", hashed("a")))
        self.assertEqual(cheapest(store, indexes, ask())[0], ("walk",))

    def test_a_tuple_of_way_and_touched(self):
        store, _ = made([row(1)])
        self.assertEqual(cheapest(store, [], ask()), (("walk",), 1))
        self.assertIs(type(cheapest(store, [], ask())), tuple)


class RunTest(WayTest):
    def setUp(self):
        self.store, self.indexes = made(
            [row(a, a - 2, c=a * a) for a in (3, 1, 2, 3, 1)], "sorted", ("b",), [tree("a"), hashed("a"), bits("b")]
        )

    def test_answer_and_touched(self):
        question = ask(("a", "is", 3), wants=("a", "c"))
        told = run(self.store, self.indexes, question, ("walk",))
        self.assertEqual(told, ([(3, 9), (3, 9)], len(self.store.pages())))
        self.assertIs(type(told), tuple)
        self.assertIs(type(told[0]), list)

    def test_any_thing_that_is_no_way(self):
        question = ask(("a", "is", 3))
        near = [
            "walk", ["walk"], ("walk", None), ("Walk",), ("walk", "key"), (("walk",),), ("index",), ("index", "tree"),
            ("index", ("tree", ("b",))), ("index", ("tree", ["a"])), ("index", ["tree", ("a",)]), ("key", ()),
            ["index", ("tree", ("a",))], ("index", ("tree", ("a",)), ("hash", ("a",))), ("only", tree("a")),
            ("only", hashed("a")), ("both", tree("a"), hashed("a")), ("both", tree("a"), tree("a")),
            ("both", hashed("a")), ("index", bits("b")), ("both", bits("b"), hashed("a")), (("walk",), 3), ("hash", ("a",)),
        ]
        for thing in near + odd_things():
            with self.assertRaises(NoWay):
                run(self.store, self.indexes, question, thing)

    def test_a_way_of_another_ask(self):
        with self.assertRaises(NoWay):
            run(self.store, self.indexes, ask(), ("index", hashed("a")))
        store, _ = made([row(1)])
        with self.assertRaises(NoWay):
            run(store, [], ask(), ("key",))
        store, _ = made([row(1)], "hashed", ("a",))
        with self.assertRaises(NoWay):
            run(store, [], ask(("a", "from", 1, 1)), ("key",))
        with self.assertRaises(NoWay):
            run(self.store, [], ask(("a", "is", 3)), ("index", hashed("a")))

    def test_what_is_refused_changes_nothing(self):
        thing = ["walk", [tree("a")]]
        ahead = copy.deepcopy(thing), self.store.pages(), ways(self.store, self.indexes, ask(("a", "is", 3)))
        with self.assertRaises(NoWay):
            run(self.store, self.indexes, ask(("a", "is", 3)), thing)
        self.assertEqual((thing, self.store.pages(), ways(self.store, self.indexes, ask(("a", "is", 3)))), ahead)

    def test_nothing_is_changed_by_a_run(self):
        question = ask(("a", "from", 1, 2), ("b", "is", 0), order=("c", "a"), first=2)
        ahead = self.store.pages(), self.store.all_rows(), [index.size() for index in self.indexes]
        kept = list(self.indexes)
        first = ways(self.store, self.indexes, question)
        self.check(self.store, self.indexes, question)
        self.assertEqual(ways(self.store, self.indexes, question), first)
        self.assertEqual((self.store.pages(), self.store.all_rows(), [index.size() for index in self.indexes]), ahead)
        self.assertEqual([each.design for each in self.indexes], [each.design for each in kept])

    def test_told_lists_are_the_askers_own(self):
        question = ask(("a", "is", 3))
        told = ways(self.store, self.indexes, question)
        kept = list(told)
        told.clear()
        answer = run(self.store, self.indexes, question, ("walk",))[0]
        answer.append("x")
        self.assertEqual(ways(self.store, self.indexes, question), kept)
        self.assertEqual(run(self.store, self.indexes, question, ("walk",))[0], plain(self.store, question))

    def test_the_parameters_are_as_listed(self):
        self.assertEqual(str(inspect.signature(ways)), "(store, indexes, ask)")
        self.assertEqual(str(inspect.signature(cheapest)), "(store, indexes, ask)")
        self.assertEqual(str(inspect.signature(run)), "(store, indexes, ask, way)")

    def test_by_names(self):
        told = ways(ask=ask(), indexes=[], store=self.store)
        self.assertEqual(cheapest(ask=ask(), indexes=[], store=self.store), told[0])
        self.assertEqual(run(way=("walk",), ask=ask(), indexes=[], store=self.store)[1], told[0][1])


if __name__ == "__main__":
    unittest.main()
