"""Points 19 and 20: items, what they cost and what they are offered."""

import copy
import inspect
import unittest

from tests.models import plain_cost, plain_offers
from tests.things import odd_things
from tests.worlds import World
from whatindex.asks import plain
from whatindex.costs import cost, item_fault, offers
from whatindex.errors import TooMany
from whatindex.indexes import Index
from whatindex.shapes import Shape
from whatindex.stores import Store
from whatindex.ways import cheapest, run, ways

FORM = (("a", "number"), ("b", "word"))
SHAPE = Shape(rows=2, entries=2, fan=2, buckets=1, bits=4)
ROWS = [(1, "x"), (2, "x"), (3, "y")]
ASK = (("b",), (("a", "is", 2),), (), None)
TREE, HASH, BITS = ("tree", ("a",)), ("hash", ("b",)), ("bits", ("b",))
KINDS = (("heap", ()), ("sorted", ("a",)), ("hashed", ("a",)))

GOOD = (
    ("ask", ASK),
    ("put", (1, "x")),
    ("drop", (("a", "is", 1),)),
    ("set", (("a", "from", 1, None), ("b", "is", "x")), "b", "y"),
)


def made(rows=ROWS, kind="heap", key=(), designs=(), shape=SHAPE):
    store = Store(shape, FORM, kind, key=key)
    for row in rows:
        store.put(row)
    return store, [Index(store, design) for design in designs]


def state(store, indexes):
    """All that can be told of a store and indexes, and all that lies within."""
    held = [(index.design, index.size(), copy.deepcopy(vars(index.holder))) for index in indexes]
    return store.pages(), store.all_rows(), store.given, held


def with_thing(item, at, thing):
    return item[:at] + (thing,) + item[at + 1:]


class FaultTest(unittest.TestCase):
    def check(self, thing, wanted):
        told = item_fault(FORM, thing)
        self.assertEqual(told, wanted, thing)
        if wanted is not None:
            self.assertIs(type(told), int)

    def test_items(self):
        for item in GOOD:
            self.check(item, None)
        for item in (
            ("drop", ()), ("set", (), "a", 0), ("set", (), "a", -999), ("set", (), "b", "abcdefgh"), ("put", (-999, "z")),
            ("ask", (("a", "b"), (), ("b",), 20)),
        ):
            self.check(item, None)

    def test_no_tuple(self):
        for thing in odd_things() + [list(item) for item in GOOD] + ["ask", "put", {}.get]:
            self.check(thing, 0)

    def test_another_word(self):
        words = ["", "Ask", "asks", "change", "get", "as", "put ", "tree", 0, 1, True, None, ("ask",), ["ask"]]
        for word in words + odd_things():
            for item in GOOD:
                self.check(with_thing(item, 0, word), 0)

    def test_another_count(self):
        for item in GOOD:
            self.check(item[:-1], 0)
            self.check(item + (None,), 0)
            self.check(item + item[1:], 0)
            self.check(item[:1], 0)
        self.check(("ask", ASK, "b", "y"), 0)
        self.check(("put", (1, "x"), "b", "y"), 0)
        self.check(("drop", (), "b", "y"), 0)
        self.check(("set", ()), 0)
        self.check(("set", (), "b"), 0)

    def test_the_word_goes_ahead_of_what_is_wrong_behind(self):
        for item in GOOD:
            self.check(with_thing(item, 0, "get")[:1] + (None,) * (len(item) - 1), 0)
            self.check(item[:1] + (None,) * len(item), 0)

    def test_a_wrong_second_thing(self):
        for item in GOOD:
            for thing in odd_things() + [None, 1, "a", list(item[1]), (item[1],), item[1] + (None,), item]:
                if not (item[0] in ("drop", "set") and thing == ()):
                    self.check(with_thing(item, 1, thing), 1)

    def test_a_second_thing_of_another_item(self):
        for item in GOOD:
            for other in GOOD:
                alike = item[0] == other[0] or {item[0], other[0]} == {"drop", "set"}
                self.check(with_thing(item, 1, other[1]), None if alike else 1)

    def test_an_ask_with_a_fault_within(self):
        for at, thing in enumerate(((), (("a", "is", "x"),), ("c",), 21)):
            self.check(("ask", with_thing(ASK, at, thing)), 1)
        self.check(("ask", ASK[:3]), 1)

    def test_a_row_with_a_fault_within(self):
        for row in ((1,), (1, "x", "x"), ("x", 1), (1, 1), (True, "x"), (1000, "x"), (1, "X"), [1, "x"], (1, None)):
            self.check(("put", row), 1)

    def test_conditions_with_a_fault_within(self):
        for conditions in (
            (("a", "is", "x"),), (("b", "is", 1),), (("c", "is", 1),), (("a", "is", True),), (("a", "from", None, None),),
            (("a", "is", 1), ("a", "is", 1)), (("a", "is", 1, 2),), (("a", "from", 1),), [("a", "is", 1)],
            (["a", "is", 1],), ("a", "is", 1), (("a", "is", 1000),), (("a", "=", 1),), (("a", "is", 1), None),
        ):
            self.check(("drop", conditions), 1)
            self.check(("set", conditions, "b", "y"), 1)

    def test_a_column_that_is_none(self):
        for column in ["c", "", "A", "ab", ("a",), ["a"], 0, 1, None, True, "a "] + odd_things():
            self.check(("set", (), column, 1), 2)
            self.check(("set", (), column, "x"), 2)

    def test_a_value_of_another_kind(self):
        for value in ("1", "x", None, True, False, 1000, -1000, (1,), [1]):
            self.check(("set", (), "a", value), 3)
        for value in (1, 0, None, True, "", "X", "abcdefghi", ("x",), ["x"], "x1"):
            self.check(("set", (), "b", value), 3)
        for value in odd_things():
            self.check(("set", (), "a", value), 3)
            self.check(("set", (), "b", value), 3)

    def test_the_first_of_several(self):
        self.check(("set", None, None, None), 1)
        self.check(("set", None, "a", 1), 1)
        self.check(("set", None, "a", "x"), 1)
        self.check(("set", None, "c", 1), 1)
        self.check(("set", (), None, None), 2)

    def test_by_names(self):
        self.assertEqual(item_fault(form=FORM, thing=("put", ())), 1)
        self.assertEqual(list(inspect.signature(item_fault).parameters), ["form", "thing"])

    def test_nothing_handed_in_is_changed(self):
        for thing in odd_things():
            item = ("set", (), "a", thing)
            kept = copy.deepcopy(item)
            item_fault(FORM, item)
            self.assertEqual(item, kept)


class CostTest(unittest.TestCase):
    """Costs reckoned by hand."""

    def test_an_ask(self):
        store, indexes = made(designs=[TREE, BITS])
        self.assertEqual(cost(store, [], ("ask", ASK)), (2, 0, []))
        self.assertEqual(cost(store, indexes, ("ask", ASK)), (2, 0, [0, 0]))
        covered = ("ask", (("a",), (("a", "is", 9),), (), None))
        self.assertEqual(cost(*made(ROWS * 3, designs=[TREE]), covered), (4, 0, [0]))

    def test_an_ask_over_nothing(self):
        for kind, key in KINDS:
            store, indexes = made([], kind, key, [TREE])
            self.assertEqual(cost(store, indexes, ("ask", ASK)), (0, 0, [0]))

    def test_a_put(self):
        store, indexes = made(designs=[TREE, BITS, HASH])
        self.assertEqual(cost(store, [], ("put", (5, "x"))), (0, 2, []))
        self.assertEqual(cost(store, indexes, ("put", (5, "x"))), (0, 2, [3, 2, 3]))
        self.assertEqual(cost(store, indexes, ("put", (0, "q"))), (0, 2, [4, 1, 3]))

    def test_keeping_is_in_the_order_handed_in(self):
        store, (tree, bits, hashed) = made(designs=[TREE, BITS, HASH])
        self.assertEqual(cost(store, [hashed, bits, tree], ("put", (0, "q"))), (0, 2, [3, 1, 4]))
        self.assertEqual(cost(store, (bits, tree), ("put", (0, "q"))), (0, 2, [1, 4]))

    def test_a_drop_of_one(self):
        store, indexes = made(designs=[TREE, BITS, HASH])
        self.assertEqual(cost(store, indexes, ("drop", (("a", "is", 2),))), (2, 2, [3, 2, 2]))

    def test_a_drop_of_none(self):
        store, indexes = made(designs=[TREE, BITS, HASH])
        # By bits no page of a value that isn't there is read.
        self.assertEqual(cost(store, indexes, ("drop", (("b", "is", "q"),))), (0, 0, [0, 0, 0]))
        self.assertEqual(cost(store, [], ("drop", (("b", "is", "q"),))), (2, 0, []))

    def test_a_drop_of_all_goes_by_rising_numbers(self):
        store, indexes = made(designs=[TREE, BITS, HASH])
        # The tree has lost its level ahead of the last; the hash its first page.
        self.assertEqual(cost(store, indexes, ("drop", ())), (2, 6, [8, 6, 6]))

    def test_a_set(self):
        store, indexes = made(designs=[TREE, BITS, HASH])
        self.assertEqual(cost(store, indexes, ("set", (), "b", "x")), (2, 2, [0, 4, 5]))
        self.assertEqual(cost(store, indexes, ("set", (("a", "from", 1, 2),), "b", "x")), (2, 0, [0, 0, 0]))
        self.assertEqual(cost(store, indexes, ("set", (("a", "is", 3),), "a", 0)), (2, 2, [6, 0, 0]))

    def test_a_set_of_a_key(self):
        store, indexes = made(kind="sorted", key=("a",), designs=[TREE])
        # Two leaves and a level: dropped with 3; then one leaf is left, parted by the third row.
        self.assertEqual(cost(store, indexes, ("set", (("a", "is", 3),), "a", 0)), (2, 6, [6]))

    def test_drops_and_sets_find_by_the_ask_for_all_columns(self):
        design = ("tree", ("a", "b"))
        store, indexes = made([(number, "x") for number in range(12)], designs=[TREE, design])
        conditions = (("a", "is", 5),)
        wanted = cheapest(store, indexes, (("a", "b"), conditions, (), None))
        self.assertEqual(wanted, (("only", design), 4))
        self.assertEqual(cost(store, indexes, ("drop", conditions))[0], 4)
        self.assertEqual(cost(store, indexes, ("set", conditions, "b", "x"))[0], 4)
        self.assertEqual(cost(store, indexes[:1], ("drop", conditions))[0], 5)
        self.assertEqual(cost(store, [], ("drop", conditions))[0], 6)


class SixtyTest(unittest.TestCase):
    """A put is told of, too, where sixty numbers are gone."""

    def test_the_next_number(self):
        for width, wanted in ((2, 1), (4, 1), (5, 1), (6, 1), (7, 2), (8, 2), (16, 2), (64, 2)):
            shape = Shape(rows=2, entries=2, fan=2, buckets=1, bits=width)
            store, indexes = made([(1, "x")] * 60, designs=[BITS], shape=shape)
            # A page for 61 is there where its stretch begins ahead of it.
            self.assertEqual(cost(store, indexes, ("put", (1, "x")))[2], [wanted], width)
            self.assertEqual(cost(store, indexes, ("put", (1, "y")))[2], [1], width)

    def test_where_rows_are_dropped_the_number_is_new_all_the_same(self):
        store, indexes = made([(1, "x")] * 60, designs=[("bits", ("a",))], shape=Shape(bits=5))
        for number in range(11, 60):
            store.drop(number)
            indexes[0].drop(number, (1, "x"))
        self.assertEqual(cost(store, indexes, ("put", (1, "x"))), (0, 2, [1]))
        store, indexes = made([(1, "x")] * 59, designs=[("bits", ("a",))], shape=Shape(bits=5))
        self.assertEqual(cost(store, indexes, ("put", (1, "x")))[2], [2])

    def test_the_store(self):
        self.assertEqual(cost(*made([(1, "x")] * 60), ("put", (1, "x")))[1], 1)
        store, _ = made([(1, "x")] * 60)
        store.drop(31)
        self.assertEqual(cost(store, [], ("put", (1, "x")))[1], 2)
        for kind, key in KINDS[1:]:
            store, indexes = made([(1, "x")] * 60, kind, key, [TREE, HASH])
            tree = Index(store, TREE)
            self.assertEqual(cost(store, indexes, ("put", (2, "x")))[2][0], tree.put(61, (2, "x")))
        store, _ = made([(1, "x")] * 60, "hashed", ("a",), shape=Shape(rows=8, buckets=1))
        self.assertEqual(cost(store, [], ("put", (1, "x")))[1], 9)

    def test_it_stays_refused(self):
        store, indexes = made([(1, "x")] * 60, designs=[TREE])
        ahead = state(store, indexes)
        cost(store, indexes, ("put", (1, "x")))
        with self.assertRaises(TooMany):
            store.put((1, "x"))
        self.assertEqual(state(store, indexes), ahead)


class OffersTest(unittest.TestCase):
    BOTH = ("ask", (("a",), (("a", "is", 2), ("b", "is", "x")), (), None))

    def test_a_put(self):
        store, indexes = made(designs=[TREE, BITS])
        self.assertEqual(offers(store, [], ("put", (1, "x"))), [(0, ())])
        self.assertEqual(offers(store, indexes, ("put", (1, "x"))), [(0, ())])

    def test_no_index(self):
        store, _ = made()
        self.assertEqual(offers(store, [], self.BOTH), [(2, ())])
        store, _ = made(kind="sorted", key=("a",))
        self.assertEqual(offers(store, [], self.BOTH), [(2, ()), (2, ())])

    def test_needs_are_places_in_the_order_handed_in(self):
        store, (tree, bits, hashed) = made(designs=[TREE, BITS, HASH])
        # walk, bits, hash, tree, bits and hash, bits and tree, hash and tree
        pages = [2, 2, 3, 3, 4, 4, 5]
        wanted = [(), (1,), (2,), (0,), (1, 2), (0, 1), (0, 2)]
        self.assertEqual(offers(store, [tree, bits, hashed], self.BOTH), list(zip(pages, wanted)))
        wanted = [(), (2,), (0,), (1,), (0, 2), (1, 2), (0, 1)]
        self.assertEqual(offers(store, (hashed, tree, bits), self.BOTH), list(zip(pages, wanted)))

    def test_of_drops_and_sets(self):
        design = ("tree", ("b", "a"))
        store, indexes = made(designs=[TREE, design])
        conditions = (("b", "is", "y"),)
        told = ways(store, indexes, (("a", "b"), conditions, (), None))
        wanted = [(touched, needs) for (_, touched), needs in zip(told, [(), (0,), (1,), (1,)])]
        self.assertEqual([way[0] for way, _ in told], ["walk", "index", "index", "only"])
        self.assertEqual(offers(store, indexes, ("drop", conditions)), wanted)
        self.assertEqual(offers(store, indexes, ("set", conditions, "a", 1)), wanted)

    def test_the_list_is_the_askers_own(self):
        store, indexes = made(designs=[TREE])
        told = offers(store, indexes, self.BOTH)
        kept = list(told)
        told.clear()
        self.assertEqual(offers(store, indexes, self.BOTH), kept)
        offers(store, indexes, ("put", (1, "x"))).clear()
        self.assertEqual(offers(store, indexes, ("put", (1, "x"))), [(0, ())])


class OwnTest(unittest.TestCase):
    """Nothing is changed by what is told."""

    def test_nothing_is_changed(self):
        for kind, key in KINDS:
            store, indexes = made(ROWS * 4, kind, key, [TREE, BITS, HASH, ("hash", ("a",)), ("bits", ("a",))])
            ahead = state(store, indexes)
            for item in GOOD + (("drop", ()), ("set", (), "a", 7), ("set", (), "b", "q")):
                first = cost(store, indexes, item), offers(store, indexes, item)
                self.assertEqual(state(store, indexes), ahead)
                self.assertEqual((cost(store, indexes, item), offers(store, indexes, item)), first)

    def test_the_list_of_keeping_is_the_askers_own(self):
        store, indexes = made(designs=[TREE, BITS])
        told = cost(store, indexes, GOOD[1])
        told[2].append(5)
        self.assertEqual(cost(store, indexes, GOOD[1])[2], [4, 2])
        kept = cost(store, indexes, GOOD[1])
        store.put((9, "z"))
        cost(store, indexes, GOOD[3])
        self.assertEqual(kept, (0, 2, [4, 2]))

    def test_a_list_of_indexes_is_not_kept(self):
        store, indexes = made(designs=[TREE, BITS])
        handed = list(indexes)
        cost(store, handed, GOOD[2])
        offers(store, handed, GOOD[2])
        self.assertEqual(handed, indexes)

    def test_by_names(self):
        store, indexes = made(designs=[TREE])
        item = GOOD[1]
        self.assertEqual(cost(item=item, indexes=indexes, store=store), cost(store, indexes, item))
        self.assertEqual(offers(item=item, indexes=indexes, store=store), [(0, ())])
        for function in (cost, offers):
            self.assertEqual(list(inspect.signature(function).parameters), ["store", "indexes", "item"])


def done(store, indexes, item):
    """What the deeds themselves touch when an item is done on the store and indexes handed in."""
    if item[0] == "ask":
        way, _ = cheapest(store, indexes, item[1])
        answer, touched = run(store, indexes, item[1], way)
        return (touched, 0, [0 for _ in indexes]), answer
    keeping = [0 for _ in indexes]
    if item[0] == "put":
        number, touched = store.put(item[1])
        return (0, touched, [index.put(number, item[1]) for index in indexes]), number
    ask = (tuple(name for name, _ in store.form), item[1], (), None)
    finding = run(store, indexes, ask, cheapest(store, indexes, ask)[0])[1]
    reached, edited = plain(store, ask), 0
    for number, row in store.all_rows():
        if row in reached:
            word, more = ("drop", ()) if item[0] == "drop" else ("change", item[2:])
            for at, index in enumerate(indexes):
                keeping[at] += getattr(index, word)(number, row, *more)
            edited += getattr(store, word)(number, *more)
    return (finding, edited, keeping), None


class WholeTest(unittest.TestCase):
    """Told costs against the deeds done then, and against the document's words."""

    def compare(self, world, item):
        self.assertIsNone(item_fault(world.form, item))
        indexes, others = world.indexes()
        told = cost(world.store, indexes, item)
        self.assertEqual(told, plain_cost(world.plain, others, item), item)
        self.assertEqual(offers(world.store, indexes, item), plain_offers(world.plain, others, item))
        self.assertEqual(min(touched for touched, _ in offers(world.store, indexes, item)), told[0])
        if item[0] != "put" or world.plain.next <= 60:
            store, made_ones = copy.deepcopy((world.store, indexes))
            self.assertEqual(done(store, made_ones, item)[0], told, item)

    def thought_of(self, world, item):
        """By indexes that are only thought of an item costs what it does when these are made then."""
        designs = [("tree", world.columns(1, 4)), ("hash", world.columns(1, 3)), ("bits", world.columns(1, 1))]
        thought = [Index(world.store, design) for design in designs]
        told = cost(world.store, thought, item)
        store = copy.deepcopy(world.store)
        if item[0] != "put" or world.plain.next <= 60:
            self.assertEqual(done(store, [Index(store, design) for design in designs], item)[0], told)

    def test_many_worlds(self):
        for seed in range(60):
            with self.subTest(seed=seed):
                world = World(seed)
                for turn in range(100):
                    world.edit()
                    if turn % 10 == 0:
                        world.make()
                    if turn % 6 == 0:
                        self.compare(world, world.item())
                        self.thought_of(world, world.item())


if __name__ == "__main__":
    unittest.main()
