"""Point 12: designs and indexes."""

import copy
import inspect
import random
import unittest

from tests.models import PlainIndex, PlainStore
from tests.things import odd_things
from whatindex.errors import NoDesign
from whatindex.indexes import Index, is_design
from whatindex.shapes import Shape
from whatindex.stores import Store

FORM = (("a", "number"), ("b", "word"), ("c", "number"), ("d", "word"), ("e", "number"))
LONE = (("a", "number"),)


def row(a, b="x", c=0, d="y", e=0):
    return (a, b, c, d, e)


def store_of(rows, shape=None, kind="heap", key=()):
    store = Store(shape or Shape(), FORM, kind, key=key)
    for each in rows:
        store.put(each)
    return store


class DesignTest(unittest.TestCase):
    def test_designs_of_all_kinds(self):
        for many, kinds in ((1, ("tree", "hash", "bits")), (2, ("tree", "hash")), (3, ("tree", "hash")), (4, ("tree",))):
            for kind in kinds:
                self.assertIs(is_design(FORM, (kind, tuple("edcba"[:many]))), True, (kind, many))
        self.assertIs(is_design(LONE, ("tree", ("a",))), True)

    def test_too_many_columns(self):
        self.assertIs(is_design(FORM, ("tree", tuple("abcde"))), False)
        self.assertIs(is_design(FORM, ("hash", tuple("abcd"))), False)
        self.assertIs(is_design(FORM, ("bits", tuple("ab"))), False)

    def test_no_column(self):
        for kind in ("tree", "hash", "bits"):
            self.assertIs(is_design(FORM, (kind, ())), False)

    def test_columns_of_other_forms_and_twice_one(self):
        for kind in ("tree", "hash", "bits"):
            for columns in (("f",), ("a", "f"), ("a", "a"), ("b", "a", "b"), ("A",), ("",)):
                self.assertIs(is_design(FORM, (kind, columns)), False)
        self.assertIs(is_design(LONE, ("hash", ("b",))), False)

    def test_near_misses(self):
        near = [
            ["tree", ("a",)], ("tree", ["a"]), ("tree", "a"), ("bits", "a"), ("tree",), ("a",), ("tree", ("a",), 1),
            ("tree", "a", "b"), ("Tree", ("a",)), ("sorted", ("a",)), ("heap", ("a",)), (("a",), "tree"),
            ("tree", (("a",),)), ("tree", (["a"],)), ("tree", ("a", None)), ("tree", (1,)), ("tree", (True,)),
            (["tree"], ("a",)), (("tree",), ("a",)), (None, ("a",)), (True, ("a",)), ("", ("a",)), "tree", ("tree", FORM),
        ]
        for thing in near:
            self.assertIs(is_design(FORM, thing), False, thing)

    def test_any_thing(self):
        for thing in odd_things():
            self.assertIs(is_design(FORM, thing), False, thing)
            # One of them is a tuple of a column's name.
            self.assertIs(is_design(FORM, ("tree", thing)), thing == ("a",), thing)
            self.assertIs(is_design(FORM, (thing, ("a",))), False, thing)
            self.assertIs(is_design(FORM, ("hash", (thing,))), False, thing)

    def test_nothing_handed_in_is_changed(self):
        things = odd_things()
        ahead = copy.deepcopy(things)
        for thing in things:
            is_design(FORM, thing)
            is_design(FORM, ("tree", thing))
        self.assertEqual(things, ahead)


class MadeTest(unittest.TestCase):
    def test_no_design(self):
        store = store_of([row(1)])
        near = [("tree", ()), ("bits", ("a", "b")), ["tree", ("a",)], ("hash", ("f",)), ("tree", ["a"])]
        for thing in near + odd_things():
            with self.assertRaises(NoDesign):
                Index(store, thing)
        self.assertEqual(store.all_rows(), [(1, row(1))])

    def test_the_design(self):
        for design in (("tree", ("b", "a")), ("hash", ("b",)), ("bits", ("c",))):
            self.assertEqual(Index(store_of([]), design).design, design)

    def test_sizes_of_a_store_without_rows(self):
        for design in (("tree", ("b", "a")), ("hash", ("b",)), ("bits", ("c",))):
            self.assertEqual(Index(store_of([]), design).size(), 0)

    def test_a_tree_is_packed(self):
        # Six things in leaves of two: three leaves and one page over them.
        shape = Shape(entries=2, fan=3)
        store = store_of([row(a) for a in (5, 3, 4, 1, 2, 6)], shape)
        index = Index(store, ("tree", ("a",)))
        self.assertEqual(index.size(), 4)
        # One more makes four leaves, two pages over them, one over those.
        self.assertEqual(index.put(7, row(7)), 1 + 1 + 2)
        self.assertEqual(index.size(), 7)

    def test_a_hash_is_put_in_rising_order_of_numbers(self):
        shape = Shape(entries=2, buckets=1)
        store = store_of([row(a) for a in (5, 3, 4, 1, 2)], shape, "sorted", ("a",))
        index = Index(store, ("hash", ("a",)))
        self.assertEqual(index.size(), 3)
        # Number 5 lies alone on the third page, number 1 on the first.
        self.assertEqual(index.drop(5, row(2)), 4)
        self.assertEqual(index.drop(1, row(5)), 2)
        self.assertEqual(index.size(), 2)

    def test_a_hash_has_the_pages_of_all_buckets(self):
        shape = Shape(entries=2, buckets=8)
        index = Index(store_of([row(a) for a in (0, 1, 2, 8, 16)], shape), ("hash", ("a",)))
        self.assertEqual(index.size(), 4)

    def test_bits_have_the_pages_of_all_values(self):
        shape = Shape(bits=2)
        index = Index(store_of([row(a) for a in (7, 7, 8, 7, 7, 8)], shape), ("bits", ("a",)))
        # 7 has 1, 2, 4, 5: three stretches; 8 has 3 and 6: two.
        self.assertEqual(index.size(), 5)

    def test_made_of_the_rows_as_they_are_then(self):
        shape = Shape(entries=2, buckets=1, bits=2)
        store = store_of([row(a) for a in (1, 2, 3, 4, 5, 6)], shape)
        for number in (1, 2, 4):
            store.drop(number)
        store.change(5, "a", 9)
        self.assertEqual(Index(store, ("tree", ("a",))).size(), 3)
        self.assertEqual(Index(store, ("hash", ("a",))).size(), 2)
        bits = Index(store, ("bits", ("a",)))
        self.assertEqual(bits.size(), 3)
        self.assertEqual(bits.drop(5, row(9)), 2)
        self.assertEqual(bits.size(), 2)

    def test_the_shape_says_entries_not_rows(self):
        store = store_of([row(a) for a in range(8)], Shape(rows=2, entries=8, buckets=1))
        self.assertEqual(Index(store, ("tree", ("a",))).size(), 1)
        self.assertEqual(Index(store, ("hash", ("a",))).size(), 1)


class DeedTest(unittest.TestCase):
    SHAPE = Shape(entries=2, fan=2, buckets=1, bits=2)

    def test_told_of_none_it_stays(self):
        for design in (("tree", ("a",)), ("hash", ("a",)), ("bits", ("a",))):
            store = store_of([row(1), row(2)], self.SHAPE)
            index = Index(store, design)
            size = index.size()
            for a in range(3, 12):
                store.put(row(a))
            store.drop(1)
            store.change(2, "a", 50)
            self.assertEqual(index.size(), size)
            # It still has the rows as they were handed to it.
            self.assertEqual(index.drop(2, row(2)), {"tree": 2, "hash": 2, "bits": 2}[design[0]])

    def test_told_of_an_edit_the_store_stays(self):
        store = store_of([row(1)], self.SHAPE)
        index = Index(store, ("tree", ("a",)))
        index.put(2, row(5))
        index.change(1, row(1), "a", 7)
        index.drop(1, row(7))
        self.assertEqual(store.all_rows(), [(1, row(1))])

    def test_a_tree(self):
        index = Index(store_of([], self.SHAPE), ("tree", ("b", "a")))
        told = [index.put(number, row(number)) for number in range(1, 6)]
        self.assertEqual(told, [1, 2, 3, 3, 4])
        self.assertEqual(index.size(), 3 + 2 + 1)
        self.assertEqual(index.drop(5, row(5)), 4)
        self.assertEqual(index.size(), 2 + 1)

    def test_a_hash(self):
        index = Index(store_of([], self.SHAPE), ("hash", ("a", "b")))
        self.assertEqual([index.put(number, row(number)) for number in range(1, 6)], [1, 2, 2, 3, 3])
        self.assertEqual(index.drop(3, row(3)), 3)
        self.assertEqual(index.put(9, row(3)), 3)
        self.assertEqual(index.size(), 3)

    def test_bits(self):
        index = Index(store_of([], self.SHAPE), ("bits", ("b",)))
        self.assertEqual(index.put(1, row(1, "x")), 1)
        self.assertEqual(index.put(2, row(1, "x")), 2)
        self.assertEqual(index.put(3, row(1, "x")), 1)
        self.assertEqual(index.put(4, row(1, "y")), 1)
        self.assertEqual(index.size(), 3)
        self.assertEqual(index.drop(3, row(1, "x")), 2)
        self.assertEqual(index.size(), 2)

    def test_a_change_of_another_column(self):
        for design in (("tree", ("a", "b")), ("hash", ("a", "b")), ("bits", ("a",))):
            index = Index(store_of([row(1), row(2)], self.SHAPE), design)
            self.assertEqual(index.change(1, row(1), "c", 9), 0)
            self.assertEqual(index.change(1, row(1), "d", "z"), 0)
            self.assertEqual(index.drop(1, row(1)), 2)

    def test_a_change_to_the_same_value(self):
        for design in (("tree", ("a", "b")), ("hash", ("a", "b")), ("bits", ("a",))):
            index = Index(store_of([row(1), row(2)], self.SHAPE), design)
            self.assertEqual(index.change(1, row(1), "a", 1), 0)
            self.assertEqual(index.change(2, row(2), "b", "x"), 0)

    def test_a_change_of_a_tree(self):
        index = Index(store_of([row(a) for a in range(1, 6)], self.SHAPE), ("tree", ("b", "a")))
        # Two levels ahead of the drop, by which a leaf goes; then one level and a parted leaf.
        self.assertEqual(index.change(5, row(5), "a", 0), 4 + 4)
        self.assertEqual(index.drop(5, row(0)), 4)

    def test_a_change_of_a_hash(self):
        index = Index(store_of([row(a) for a in range(1, 6)], self.SHAPE), ("hash", ("a",)))
        # Dropped from the first page, and put there again behind the other.
        self.assertEqual(index.change(1, row(1), "a", 9), 2 + 2)
        self.assertEqual(index.change(5, row(5), "a", 9), 4 + 3)

    def test_a_change_of_bits(self):
        index = Index(store_of([row(1), row(1), row(2)], self.SHAPE), ("bits", ("a",)))
        self.assertEqual(index.change(1, row(1), "a", 2), 2 + 1)
        self.assertEqual(index.change(2, row(1), "a", 2), 2 + 2)
        self.assertEqual(index.size(), 2)

    def test_two_indexes_share_nothing(self):
        store = store_of([row(1)], self.SHAPE)
        for design in (("tree", ("a",)), ("hash", ("a",)), ("bits", ("a",))):
            one, two = Index(store, design), Index(store, design)
            for number in range(2, 6):
                one.put(number, row(number))
            self.assertEqual(two.size(), 1)
            two.drop(1, row(1))
            self.assertEqual(two.size(), 0)
            self.assertGreater(one.size(), 1)

    def test_the_parameters_are_as_listed(self):
        self.assertEqual(str(inspect.signature(Index)), "(store, design)")
        self.assertEqual(str(inspect.signature(is_design)), "(form, thing)")
        listed = {
            "put": "(self, number, row)",
            "drop": "(self, number, row)",
            "change": "(self, number, row, column, value)",
            "size": "(self)",
        }
        for name, words in listed.items():
            self.assertEqual(str(inspect.signature(vars(Index)[name])), words)

    def test_by_names(self):
        index = Index(design=("bits", ("a",)), store=store_of([]))
        self.assertEqual(index.put(row=row(1), number=1), 1)
        self.assertEqual(index.change(value=2, column="a", row=row(1), number=1), 3)
        self.assertEqual(index.drop(row=row(2), number=1), 2)
        self.assertIs(is_design(thing=("tree", ("a",)), form=FORM), True)


class WholeIndexTest(unittest.TestCase):
    """Many edits in any order, told side by side with the document's words."""

    NAMES = "abcde"

    def new_row(self, chance):
        return row(chance.randint(-2, 2), chance.choice("xyz"), chance.randint(0, 3), chance.choice("xy"), 7)

    def design(self, chance):
        kind, most = chance.choice((("tree", 4), ("hash", 3), ("bits", 1)))
        return kind, tuple(chance.sample(self.NAMES, chance.randint(1, most)))

    def edit(self, chance, store, plain):
        """An edit of both stores; told is how an index is told of it."""
        word = chance.choice(("put", "drop", "change"))
        if word == "put" and plain.next <= 60:
            new = self.new_row(chance)
            number = store.put(new)[0]
            plain.put(new)
            return lambda index, told: index.put(number, told(new))
        if not plain.rows:
            return None
        number = chance.choice(sorted(plain.rows))
        old = plain.row(number)
        if word == "drop":
            store.drop(number)
            plain.drop(number)
            return lambda index, told: index.drop(number, told(old))
        at = chance.randint(0, 4)
        value = self.new_row(chance)[at]
        store.change(number, self.NAMES[at], value)
        plain.change(number, self.NAMES[at], value)
        return lambda index, told: index.change(number, told(old), self.NAMES[at], value)

    def one_run(self, seed):
        chance = random.Random(seed)
        shape = Shape(
            entries=chance.randint(2, 8), fan=chance.randint(2, 8), buckets=chance.randint(1, 8), bits=chance.randint(2, 64)
        )
        store, plain = Store(shape, FORM), PlainStore(shape, FORM, "heap", ())
        pairs = []
        for _ in range(100):
            if chance.random() < 0.1:
                design = self.design(chance)
                pairs.append((Index(store, design), PlainIndex(plain, design)))
            tell = self.edit(chance, store, plain)
            for index, other in pairs:
                if tell is not None:
                    by_names = tell(other, lambda values: dict(zip(self.NAMES, values)))
                    self.assertEqual(tell(index, lambda values: values), by_names)
                self.assertEqual(index.size(), other.size())

    def test_many_edits(self):
        for seed in range(60):
            self.one_run(seed)


if __name__ == "__main__":
    unittest.main()
