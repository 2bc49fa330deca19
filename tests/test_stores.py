"""Points 10 and 11: stores."""

import copy
import inspect
import random
import unittest

from tests.models import PlainStore
from tests.things import odd_things
from whatindex.errors import NoNumber, NoRow, NoStore, TooMany
from whatindex.shapes import Shape
from whatindex.stores import Store

FORM = (("name", "word"), ("cents", "number"), ("place", "word"), ("mass", "number"))
KINDS = (("heap", ()), ("sorted", ("cents",)), ("hashed", ("cents",)))


def row(cents, name="pear", place="a", mass=0):
    return (name, cents, place, mass)


def filled(store, many):
    for number in range(1, many + 1):
        store.put(row(number))
    return store


class MadeTest(unittest.TestCase):
    def refused(self, *told, **more):
        with self.assertRaises(NoStore) as caught:
            Store(Shape(), *told, **more)
        return caught.exception.part

    def test_the_four_values(self):
        shape = Shape(rows=2)
        store = Store(shape, FORM, "sorted", key=("cents", "name"))
        self.assertEqual((store.shape, store.form), (shape, FORM))
        self.assertEqual((store.kind, store.key), ("sorted", ("cents", "name")))

    def test_kind_and_key_left_out(self):
        store = Store(Shape(), FORM)
        self.assertEqual((store.kind, store.key), ("heap", ()))
        self.assertEqual((store.pages(), store.all_rows()), ([], []))

    def test_all_three_kinds_and_counts_of_columns(self):
        self.assertEqual(Store(Shape(), FORM, "heap", key=()).key, ())
        for kind in ("sorted", "hashed"):
            for key in (("mass",), ("mass", "name"), ("place", "name", "mass")):
                self.assertEqual(Store(Shape(), FORM, kind, key=key).key, key)

    def test_no_form(self):
        for thing in odd_things() + [list(FORM), FORM + FORM, (("a", "words"),)]:
            self.assertEqual(self.refused(thing), "form", thing)

    def test_another_kind(self):
        for thing in odd_things() + ["Heap", "heaps", "tree", "", ["heap"], ("heap",)]:
            self.assertEqual(self.refused(FORM, thing), "kind", thing)
            self.assertEqual(self.refused(FORM, thing, key=("name",)), "kind", thing)

    def test_some_key_where_none_is_due(self):
        for thing in [("name",), ["name"], "name", "", None, 0, []] + odd_things():
            if thing != ():
                self.assertEqual(self.refused(FORM, "heap", key=thing), "key", thing)
                self.assertEqual(self.refused(FORM, key=thing), "key", thing)

    def test_none_where_one_is_due(self):
        for kind in ("sorted", "hashed"):
            self.assertEqual(self.refused(FORM, kind), "key")
            self.assertEqual(self.refused(FORM, kind, key=()), "key")

    def test_keys_that_are_none(self):
        wrong = [
            ("other",), ("name", "other"), ("name", "name"), ("name", "mass", "name"),
            ("name", "cents", "place", "mass"), ["name"], "name", (["name"],), (("name",),), ("name", None),
            ("name", 1), ("name", ["mass"]), ("Name",), (True,), FORM[:1],
        ]
        for kind in ("sorted", "hashed"):
            for key in wrong + odd_things():
                self.assertEqual(self.refused(FORM, kind, key=key), "key", key)

    def test_of_two_wrong_ones_the_first_is_told(self):
        self.assertEqual(self.refused((), "none", key=1), "form")
        self.assertEqual(self.refused(None, "heap", key=("name",)), "form")
        self.assertEqual(self.refused([FORM], ["heap"]), "form")
        self.assertEqual(self.refused(FORM, "none", key=("name", "name")), "kind")
        self.assertEqual(self.refused(FORM, None, key=None), "kind")

    def test_the_parameters_are_as_listed(self):
        self.assertEqual(str(inspect.signature(Store)), "(shape, form, kind='heap', *, key=())")
        listed = {
            "put": "(self, row)",
            "drop": "(self, number)",
            "change": "(self, number, column, value)",
            "pages": "(self)",
            "all_rows": "(self)",
            "row": "(self, number)",
        }
        for name, words in listed.items():
            self.assertEqual(str(inspect.signature(vars(Store)[name])), words)

    def test_by_names(self):
        store = Store(key=("cents",), kind="sorted", form=FORM, shape=Shape())
        self.assertEqual(store.put(row=row(1)), (1, 1))
        self.assertEqual(store.change(value=2, column="cents", number=1), 2 + 1)
        self.assertEqual(store.row(number=1), row(2))
        self.assertEqual(store.drop(number=1), 2)
        with self.assertRaises(TypeError):
            Store(Shape(), FORM, "sorted", ("cents",))


class NumberTest(unittest.TestCase):
    def test_rising_and_never_one_twice(self):
        for kind, key in KINDS:
            store = filled(Store(Shape(), FORM, kind, key=key), 3)
            store.drop(3)
            self.assertEqual(store.put(row(9))[0], 4)
            for number in (1, 2, 4):
                store.drop(number)
            self.assertEqual(store.put(row(9))[0], 5)
            self.assertEqual(store.all_rows(), [(5, row(9))])

    def test_a_refused_row_takes_no_number(self):
        store = Store(Shape(), FORM)
        with self.assertRaises(NoRow):
            store.put(("pear",))
        self.assertEqual(store.put(row(1)), (1, 1))

    def test_the_sixtieth_and_one_more(self):
        for kind, key in KINDS:
            store = filled(Store(Shape(), FORM, kind, key=key), 59)
            self.assertEqual(store.put(row(60))[0], 60)
            ahead = store.pages(), store.all_rows()
            with self.assertRaises(TooMany):
                store.put(row(61))
            self.assertEqual((store.pages(), store.all_rows()), ahead)
            self.assertEqual(len(store.all_rows()), 60)

    def test_also_where_some_were_dropped(self):
        for kind, key in KINDS:
            store = filled(Store(Shape(), FORM, kind, key=key), 60)
            for number in range(1, 61):
                store.drop(number)
            with self.assertRaises(TooMany):
                store.put(row(1))
            self.assertEqual(store.all_rows(), [])

    def test_a_thing_that_is_no_row_comes_ahead_of_that(self):
        store = filled(Store(Shape(), FORM), 60)
        for thing in odd_things() + [list(row(1)), row("x"), row(True), row(1000)]:
            with self.assertRaises(NoRow):
                store.put(thing)


class HeapTest(unittest.TestCase):
    def test_pages_fill_one_behind_the_other(self):
        for size in (2, 3, 8):
            store = Store(Shape(rows=size), FORM)
            told = [store.put(row(number))[1] for number in range(2 * size + 1)]
            self.assertEqual(told, [1] + [2] * (size - 1) + [1] + [2] * (size - 1) + [1])
            self.assertEqual([len(page) for page in store.pages()], [size, size, 1])

    def test_the_first_page_with_fewer(self):
        store = filled(Store(Shape(rows=2), FORM), 6)
        self.assertEqual(store.drop(5), 2)
        self.assertEqual(store.drop(1), 2)
        self.assertEqual(store.pages(), [[2], [3, 4], [6]])
        self.assertEqual(store.put(row(7)), (7, 2))
        self.assertEqual(store.pages(), [[2, 7], [3, 4], [6]])
        self.assertEqual(store.put(row(8)), (8, 2))
        self.assertEqual(store.pages(), [[2, 7], [3, 4], [6, 8]])
        self.assertEqual(store.put(row(9)), (9, 1))
        self.assertEqual(store.pages(), [[2, 7], [3, 4], [6, 8], [9]])

    def test_pages_without_rows_stay(self):
        store = filled(Store(Shape(rows=2), FORM), 5)
        for number in (3, 4, 5):
            self.assertEqual(store.drop(number), 2)
        self.assertEqual(store.pages(), [[1, 2], [], []])
        # The page that is there has no rows, so it is written alone.
        self.assertEqual(store.put(row(6)), (6, 1))
        self.assertEqual(store.put(row(7)), (7, 2))
        self.assertEqual(store.pages(), [[1, 2], [6, 7], []])

    def test_all_rows_dropped(self):
        store = filled(Store(Shape(rows=2), FORM), 3)
        for number in (1, 2, 3):
            store.drop(number)
        self.assertEqual((store.pages(), store.all_rows()), ([[], []], []))

    def test_changes(self):
        store = filled(Store(Shape(rows=2), FORM), 3)
        self.assertEqual(store.change(2, "cents", 2), 0)
        self.assertEqual(store.change(2, "cents", 9), 2)
        self.assertEqual(store.change(2, "name", "fig"), 2)
        self.assertEqual(store.change(2, "name", "fig"), 0)
        self.assertEqual(store.row(2), row(9, "fig"))
        self.assertEqual(store.pages(), [[1, 2], [3]])


class SortedTest(unittest.TestCase):
    def test_rows_lie_by_the_key_then_by_numbers(self):
        store = Store(Shape(rows=2), FORM, "sorted", key=("mass", "cents"))
        for mass, cents in ((5, 1), (1, 9), (5, 1), (1, 2), (3, 0)):
            store.put(row(cents, mass=mass))
        self.assertEqual([number for page in store.pages() for number in page], [4, 2, 5, 1, 3])

    def test_put_touches_as_a_run(self):
        store = Store(Shape(rows=2, fan=2), FORM, "sorted", key=("cents",))
        told = [store.put(row(cents))[1] for cents in (10, 20, 30, 40, 50)]
        # A first leaf; into it; parted; into the last leaf under a level; parted.
        self.assertEqual(told, [1, 2, 3, 3, 4])
        self.assertEqual(store.pages(), [[1, 2], [3, 4], [5]])

    def test_drop_touches_as_a_run(self):
        store = filled(Store(Shape(rows=2, fan=2), FORM, "sorted", key=("cents",)), 5)
        self.assertEqual(store.drop(5), 4)
        self.assertEqual(store.pages(), [[1, 2], [3, 4]])
        self.assertEqual(store.drop(1), 3)
        self.assertEqual(store.drop(2), 3)
        self.assertEqual(store.drop(3), 2)
        self.assertEqual(store.drop(4), 2)
        self.assertEqual(store.pages(), [])

    def test_a_change_of_another_column(self):
        store = filled(Store(Shape(rows=2, fan=2), FORM, "sorted", key=("cents",)), 5)
        self.assertEqual(store.change(3, "name", "fig"), 2)
        self.assertEqual(store.pages(), [[1, 2], [3, 4], [5]])
        self.assertEqual(store.row(3), row(3, "fig"))

    def test_a_change_of_the_key_drops_and_puts(self):
        store = filled(Store(Shape(rows=2, fan=2), FORM, "sorted", key=("cents",)), 5)
        # Two levels ahead of the drop, by which a leaf and a level go; then one level and a parted leaf.
        self.assertEqual(store.change(5, "cents", 0), 4 + 4)
        self.assertEqual(store.pages(), [[5, 1], [2], [3, 4]])
        self.assertEqual(store.row(5), row(0))

    def test_a_change_of_the_key_to_the_same_value(self):
        store = filled(Store(Shape(rows=2), FORM, "sorted", key=("cents",)), 3)
        self.assertEqual(store.change(2, "cents", 2), 0)
        self.assertEqual(store.pages(), [[1, 2], [3]])

    def test_the_last_row_changed(self):
        store = filled(Store(Shape(), FORM, "sorted", key=("cents",)), 1)
        # Dropped by 2, put where there is no leaf by 1.
        self.assertEqual(store.change(1, "cents", 5), 3)


class HashedTest(unittest.TestCase):
    def test_bucket_by_bucket_page_by_page(self):
        # The mark of (n,) is 208 and n, so n goes to the bucket of n less 4 as often as can be.
        store = Store(Shape(rows=2, buckets=4), FORM, "hashed", key=("cents",))
        for cents in (3, 0, 4, 8, 1):
            store.put(row(cents))
        self.assertEqual(store.pages(), [[2, 3], [4], [5], [1]])

    def test_put_and_drop_touch_as_buckets(self):
        store = Store(Shape(rows=2, buckets=1), FORM, "hashed", key=("cents",))
        self.assertEqual([store.put(row(cents))[1] for cents in range(5)], [1, 2, 2, 3, 3])
        self.assertEqual(store.drop(5), 4)
        self.assertEqual(store.drop(1), 2)
        self.assertEqual(store.drop(2), 2)
        self.assertEqual(store.pages(), [[3, 4]])

    def test_changes(self):
        store = Store(Shape(rows=2, buckets=4), FORM, "hashed", key=("cents",))
        for cents in (0, 0, 0, 1):
            store.put(row(cents))
        self.assertEqual(store.change(3, "mass", 7), 2)
        self.assertEqual(store.change(3, "cents", 0), 0)
        # The second page of its bucket goes, and it comes behind the one in the other.
        self.assertEqual(store.change(3, "cents", 1), 3 + 2)
        self.assertEqual(store.pages(), [[1, 2], [4, 3]])
        self.assertEqual(store.row(3), row(1, mass=7))

    def test_a_change_within_one_bucket_puts_behind(self):
        store = Store(Shape(rows=4, buckets=4), FORM, "hashed", key=("cents",))
        for cents in (0, 4, 8):
            store.put(row(cents))
        self.assertEqual(store.change(1, "cents", 12), 2 + 2)
        self.assertEqual(store.pages(), [[2, 3, 1]])


class RefusedTest(unittest.TestCase):
    def test_no_row(self):
        for kind, key in KINDS:
            store = filled(Store(Shape(), FORM, kind, key=key), 2)
            ahead = store.pages(), store.all_rows()
            near = [row(1)[:3], row(1) + (1,), list(row(1)), row("a"), row(1, name=5), row(True), row(1000)]
            for thing in near + odd_things():
                with self.assertRaises(NoRow):
                    store.put(thing)
                self.assertEqual((store.pages(), store.all_rows()), ahead)
            self.assertEqual(store.put(row(3))[0], 3)

    def test_numbers_that_no_row_has(self):
        for kind, key in KINDS:
            store = filled(Store(Shape(), FORM, kind, key=key), 3)
            store.drop(2)
            ahead = store.pages(), store.all_rows()
            deeds = (store.drop, store.row, lambda thing: store.change(thing, "name", "fig"))
            for thing in odd_things() + [0, -1, 2, 4, 60, 61, "1", (1,), [1], (3,), True, None]:
                for deed in deeds:
                    with self.assertRaises(NoNumber) as caught:
                        deed(thing)
                    self.assertEqual(caught.exception.number, thing)
                    self.assertIs(type(caught.exception.number), type(thing))
                    self.assertEqual((store.pages(), store.all_rows()), ahead)

    def test_truths_are_no_numbers_of_rows(self):
        store = filled(Store(Shape(), FORM), 1)
        with self.assertRaises(NoNumber) as caught:
            store.drop(True)
        self.assertIs(caught.exception.number, True)
        self.assertEqual(len(store.all_rows()), 1)

    def test_dropped_twice(self):
        store = filled(Store(Shape(), FORM), 1)
        store.drop(1)
        with self.assertRaises(NoNumber):
            store.drop(1)


class ToldTest(unittest.TestCase):
    """Point 2: what is handed in and what is told."""

    def test_told_lists_are_the_askers_own(self):
        for kind, key in KINDS:
            store = filled(Store(Shape(rows=2), FORM, kind, key=key), 5)
            ahead = copy.deepcopy((store.pages(), store.all_rows()))
            store.pages()[0].clear()
            store.pages().append([7])
            store.all_rows().clear()
            self.assertEqual((store.pages(), store.all_rows()), ahead)
            self.assertEqual(store.put(row(6))[0], 6)

    def test_later_deeds_change_nothing_told(self):
        for kind, key in KINDS:
            store = filled(Store(Shape(rows=2), FORM, kind, key=key), 3)
            told = store.pages(), store.all_rows()
            kept = copy.deepcopy(told)
            store.put(row(4))
            store.drop(1)
            store.change(2, "cents", 9)
            self.assertEqual(told, kept)

    def test_told_kinds(self):
        store = filled(Store(Shape(), FORM), 2)
        self.assertEqual(store.all_rows(), [(1, row(1)), (2, row(2))])
        self.assertIs(type(store.all_rows()[0]), tuple)
        self.assertIs(type(store.row(1)), tuple)
        self.assertIs(type(store.put(row(3))), tuple)

    def test_two_stores_share_nothing(self):
        for kind, key in KINDS:
            one, two = Store(Shape(), FORM, kind, key=key), Store(Shape(), FORM, kind, key=key)
            one.put(row(1))
            self.assertEqual(two.all_rows(), [])
            self.assertEqual(two.put(row(5))[0], 1)
            one.drop(1)
            self.assertEqual(two.all_rows(), [(1, row(5))])
            self.assertEqual(two.pages(), [[1]])


class WholeStoreTest(unittest.TestCase):
    """Many edits in any order, told side by side with the document's words."""

    def one_run(self, seed):
        chance = random.Random(seed)
        kind = chance.choice(("heap", "sorted", "hashed"))
        names = [name for name, _ in FORM]
        key = () if kind == "heap" else tuple(chance.sample(names, chance.randint(1, 3)))
        shape = Shape(rows=chance.randint(2, 8), fan=chance.randint(2, 8), buckets=chance.randint(1, 8))
        store, plain = Store(shape, FORM, kind, key=key), PlainStore(shape, FORM, kind, key)
        for _ in range(150):
            word = chance.choice(("put", "drop", "change", "change"))
            values = (chance.choice("ab"), chance.randint(-2, 2), chance.choice(("a", "zz")), chance.randint(0, 1))
            if word == "put" and plain.next <= 60:
                self.assertEqual(store.put(values), plain.put(values))
            elif plain.rows and word == "drop":
                number = chance.choice(sorted(plain.rows))
                self.assertEqual(store.drop(number), plain.drop(number))
            elif plain.rows:
                number, at = chance.choice(sorted(plain.rows)), chance.randint(0, 3)
                told = store.change(number, names[at], values[at])
                self.assertEqual(told, plain.change(number, names[at], values[at]))
            self.assertEqual(store.pages(), plain.pages())
            self.assertEqual(store.all_rows(), [(number, plain.row(number)) for number in sorted(plain.rows)])

    def test_many_edits(self):
        for seed in range(60):
            self.one_run(seed)


if __name__ == "__main__":
    unittest.main()
