"""Points 13 and 14: asks and their plain answers."""

import copy
import inspect
import random
import unittest

from tests.models import PlainStore, plain_answer
from tests.things import odd_things
from whatindex.asks import ask_fault, plain
from whatindex.shapes import Shape
from whatindex.stores import Store

FORM = (("a", "number"), ("b", "word"), ("c", "number"), ("d", "word"), ("e", "number"), ("f", "word"))
WIDE = ("a", "b", "c", "d", "e", "f")
GOOD = (("a", "b"), (("a", "is", 5), ("b", "from", "m", None)), ("c",), 3)


def with_thing(at, thing):
    """The good ask with another thing at a place from 1."""
    return GOOD[:at - 1] + (thing,) + GOOD[at:]


class FaultTest(unittest.TestCase):
    def good(self, at, *things):
        for thing in things:
            self.assertIsNone(ask_fault(FORM, with_thing(at, thing)), thing)

    def faulty(self, at, *things):
        for thing in things:
            told = ask_fault(FORM, with_thing(at, thing))
            self.assertEqual(told, at, thing)
            self.assertIs(type(told), int)

    def test_an_ask(self):
        self.assertIsNone(ask_fault(FORM, GOOD))
        self.assertIsNone(ask_fault(FORM, (("a",), (), (), None)))

    def test_no_tuple_of_four(self):
        things = [GOOD[:3], GOOD + (None,), list(GOOD), (), (GOOD,), "abcd", [(), (), (), None]]
        for thing in things + odd_things():
            told = ask_fault(FORM, thing)
            self.assertEqual(told, 0, thing)
            self.assertIs(type(told), int)

    def test_wants(self):
        self.good(1, ("a",), WIDE, ("f", "a", "c"), WIDE[::-1])
        self.faulty(1, (), ("a", "a"), ("g",), ("a", "g"), ["a"], "a", ("A",), (1,), (("a",),), (["a"],), None, WIDE + ("a",))

    def test_wants_any_thing(self):
        for thing in odd_things():
            if thing != ("a",):
                self.faulty(1, thing)
                self.faulty(1, ("b", thing))

    def test_conditions(self):
        self.good(
            2, (), (("a", "is", 0),), (("b", "is", "x"),), (("a", "from", 1, 2),), (("a", "from", None, 2),),
            (("a", "from", 1, None),), (("b", "from", "a", "zz"),), (("a", "from", 5, 1),), (("a", "from", 0, 0),),
            tuple((name, "is", 1 if kind == "number" else "x") for name, kind in FORM),
            (("a", "is", -999), ("c", "is", 999)), (("f", "is", "abcdefgh"),),
        )

    def test_conditions_near_misses(self):
        self.faulty(
            2, [], None, ("a", "is", 0), [("a", "is", 0)], (["a", "is", 0],), (("a", "is"),), (("a",),), ((),),
            (("a", "is", 0, 0),), (("a", "is", 0, None),), (("a", "from", 1),), (("a", "from", 1, 2, 3),),
            (("a", "from", None, None),), (("b", "from", None, None),), (("g", "is", 0),), (("g", "from", 0, 1),),
            (("a", "is", "x"),), (("b", "is", 5),), (("a", "is", 1000),), (("a", "is", True),), (("a", "is", None),),
            (("a", "from", "x", None),), (("a", "from", 1, "x"),), (("b", "from", 1, "x"),), (("b", "from", "", "x"),),
            (("a", "from", 1000, None),), (("a", "from", None, -1000),), (("a", "from", False, 1),),
            (("a", "IS", 0),), (("a", "in", 0),), (("a", None, 0),), (("a", ["is"], 0),), (("a", "to", 0, 1),),
            ((["a"], "is", 0),), ((("a",), "is", 0),), ((None, "is", 0),), ((1, "is", 0),),
            (("a", "is", [0]),), (("a", "is", (0,)),), (("a", "from", [0], None),),
        )

    def test_conditions_twice_for_a_column(self):
        self.faulty(2, (("a", "is", 0), ("a", "is", 1)), (("a", "is", 0), ("b", "is", "x"), ("a", "from", 0, 1)))
        self.faulty(2, (("a", "from", 0, None), ("a", "from", None, 1)), (("a", "is", 0),) * 2)
        self.faulty(2, tuple((name, "is", 1 if kind == "number" else "x") for name, kind in FORM) + (("a", "is", 1),))

    def test_conditions_any_thing(self):
        for thing in odd_things():
            if thing != ():
                self.faulty(2, thing)
            self.faulty(2, (thing,), (("a", "is", 0), thing))
            self.faulty(2, ((thing, "is", 0),), (("a", thing, 0),), (("a", thing, 0, 1),), (("a", "is", thing),))
            if thing is not None:
                self.faulty(2, (("a", "from", thing, None),), (("a", "from", 1, thing),))

    def test_order(self):
        self.good(3, (), ("a",), ("d", "c", "b", "a"), ("f", "e"))
        self.faulty(3, ("a", "a"), ("g",), WIDE[:5], ["a"], [], "a", "", None, (1,), (("a",),), (["a"],), ("a", None))
        for thing in odd_things():
            if thing not in ((), ("a",)):
                self.faulty(3, thing)
            self.faulty(3, ("b", thing))

    def test_first(self):
        self.good(4, None, 1, 2, 19, 20)
        self.faulty(4, 0, 21, -1, True, False, "1", "", (1,), [1], (), [])
        for thing in odd_things():
            if thing is not None:
                self.faulty(4, thing)

    def test_of_two_wrong_things_the_first_is_told(self):
        wrong = {1: (), 2: None, 3: ["a"], 4: 0}
        for at in wrong:
            for other in range(at + 1, 5):
                thing = list(GOOD)
                thing[at - 1], thing[other - 1] = wrong[at], wrong[other]
                self.assertEqual(ask_fault(FORM, tuple(thing)), at)
        self.assertEqual(ask_fault(FORM, ((), (), None, 0)), 1)
        self.assertEqual(ask_fault(FORM, (1, 2, 3, 4)), 1)

    def test_of_another_form(self):
        self.assertEqual(ask_fault((("b", "word"),), GOOD), 1)
        self.assertEqual(ask_fault((("a", "word"), ("b", "word"), ("c", "word")), GOOD), 2)
        self.assertEqual(ask_fault((("a", "number"), ("b", "word")), GOOD), 3)

    def test_nothing_handed_in_is_changed(self):
        things = odd_things()
        ahead = copy.deepcopy(things)
        for thing in things:
            ask_fault(FORM, thing)
            for at in (1, 2, 3, 4):
                ask_fault(FORM, with_thing(at, thing))
        self.assertEqual(things, ahead)

    def test_the_parameters_are_as_listed(self):
        self.assertEqual(str(inspect.signature(ask_fault)), "(form, thing)")
        self.assertEqual(str(inspect.signature(plain)), "(store, ask)")
        self.assertIsNone(ask_fault(thing=GOOD, form=FORM))


SMALL = (("n", "number"), ("w", "word"), ("m", "number"))
ROWS = [(5, "pear", 1), (3, "fig", 2), (5, "fig", 2), (-1, "plum", 1), (3, "apple", 1), (5, "pear", 0)]


class PlainTest(unittest.TestCase):
    def told(self, wants, conditions=(), order=(), first=None):
        answers = []
        for kind, key in (("heap", ()), ("sorted", ("w", "m")), ("hashed", ("n",))):
            store = Store(Shape(rows=2), SMALL, kind, key=key)
            for row in ROWS:
                store.put(row)
            answers.append(plain(store, (wants, conditions, order, first)))
        # The kind of the store tells nothing in the answer.
        self.assertEqual(answers[0], answers[1])
        self.assertEqual(answers[0], answers[2])
        return answers[0]

    def numbers(self, conditions=(), order=(), first=None):
        """The rows' numbers, where no two rows are alike."""
        return [ROWS.index(row) + 1 for row in self.told(("n", "w", "m"), conditions, order, first)]

    def test_all_rows_in_order_of_numbers(self):
        self.assertEqual(self.told(("n", "w", "m")), ROWS)

    def test_wanted_values_in_the_order_of_wants(self):
        self.assertEqual(self.told(("w", "n"), first=2), [("pear", 5), ("fig", 3)])
        self.assertEqual(self.told(("m",)), [(1,), (2,), (2,), (1,), (1,), (0,)])

    def test_is(self):
        self.assertEqual(self.numbers((("n", "is", 5),)), [1, 3, 6])
        self.assertEqual(self.numbers((("w", "is", "fig"),)), [2, 3])
        self.assertEqual(self.numbers((("n", "is", 5), ("w", "is", "fig"))), [3])
        self.assertEqual(self.numbers((("n", "is", 4),)), [])

    def test_from(self):
        self.assertEqual(self.numbers((("n", "from", 3, None),)), [1, 2, 3, 5, 6])
        self.assertEqual(self.numbers((("n", "from", 4, None),)), [1, 3, 6])
        self.assertEqual(self.numbers((("n", "from", None, 3),)), [2, 4, 5])
        self.assertEqual(self.numbers((("n", "from", None, -1),)), [4])
        self.assertEqual(self.numbers((("n", "from", -1, 3),)), [2, 4, 5])
        self.assertEqual(self.numbers((("n", "from", 3, 3),)), [2, 5])
        self.assertEqual(self.numbers((("n", "from", 5, 3),)), [])
        self.assertEqual(self.numbers((("w", "from", "fig", "pear"),)), [1, 2, 3, 6])
        self.assertEqual(self.numbers((("w", "from", "figs", None),)), [1, 4, 6])

    def test_a_bound_of_0(self):
        self.assertEqual(self.numbers((("m", "from", None, 0),)), [6])
        self.assertEqual(self.numbers((("n", "from", 0, None),)), [1, 2, 3, 5, 6])
        self.assertEqual(self.numbers((("m", "is", 0),)), [6])

    def test_all_conditions(self):
        self.assertEqual(self.numbers((("n", "from", 3, None), ("w", "from", None, "fig"), ("m", "is", 2))), [2, 3])

    def test_order(self):
        self.assertEqual(self.numbers(order=("n",)), [4, 2, 5, 1, 3, 6])
        self.assertEqual(self.numbers(order=("w",)), [5, 2, 3, 1, 6, 4])
        self.assertEqual(self.numbers(order=("n", "w")), [4, 5, 2, 3, 1, 6])
        self.assertEqual(self.numbers(order=("n", "w", "m")), [4, 5, 2, 3, 6, 1])
        self.assertEqual(self.numbers(order=("m", "n")), [6, 4, 5, 1, 2, 3])

    def test_order_by_columns_that_are_not_wanted(self):
        self.assertEqual(self.told(("m",), order=("n", "w")), [(1,), (1,), (2,), (2,), (1,), (0,)])

    def test_first(self):
        self.assertEqual(self.numbers(first=1), [1])
        self.assertEqual(self.numbers(first=6), [1, 2, 3, 4, 5, 6])
        self.assertEqual(self.numbers(first=20), [1, 2, 3, 4, 5, 6])
        self.assertEqual(self.numbers((("n", "is", 5),), ("w",), 2), [3, 1])
        self.assertEqual(self.numbers((("n", "is", 4),), ("w",), 2), [])

    def test_four_columns_of_order(self):
        form = (("a", "number"), ("b", "number"), ("c", "number"), ("d", "number"))
        store = Store(Shape(), form)
        for row in ((1, 1, 1, 2), (1, 1, 1, 1), (1, 0, 9, 9), (0, 9, 9, 9), (1, 1, 1, 1)):
            store.put(row)
        store.put((1, 1, 0, 9))
        told = plain(store, (("d",), (), ("a", "b", "c", "d"), None))
        self.assertEqual(told, [(9,), (9,), (9,), (1,), (1,), (2,)])

    def test_without_rows_and_behind_edits(self):
        store = Store(Shape(), SMALL)
        ask = (("n",), (), ("n",), None)
        self.assertEqual(plain(store, ask), [])
        for row in ROWS:
            store.put(row)
        store.drop(4)
        store.change(1, "n", 0)
        self.assertEqual(plain(store, ask), [(0,), (3,), (3,), (5,), (5,)])

    def test_a_list_of_tuples_that_is_the_askers_own(self):
        store = Store(Shape(), SMALL)
        store.put(ROWS[0])
        told = plain(store=store, ask=(("n",), (), (), None))
        self.assertEqual(told, [(5,)])
        self.assertIs(type(told), list)
        self.assertIs(type(told[0]), tuple)
        told.clear()
        self.assertEqual(plain(store, (("n",), (), (), None)), [(5,)])
        self.assertEqual(store.all_rows(), [(1, ROWS[0])])

    def test_many_asks(self):
        chance = random.Random(5)
        for _ in range(100):
            store, model = Store(Shape(), SMALL), PlainStore(Shape(), SMALL, "heap", ())
            for _ in range(chance.randint(0, 30)):
                row = (chance.randint(-2, 2), chance.choice("abc"), chance.randint(0, 2))
                store.put(row)
                model.put(row)
            names = [name for name, _ in SMALL]
            wants = tuple(chance.sample(names, chance.randint(1, 3)))
            order = tuple(chance.sample(names, chance.randint(0, 3)))
            conditions = chance.choice(((), (("n", "from", -1, None),), (("w", "is", "b"), ("m", "from", 0, 1))))
            ask = (wants, conditions, order, chance.choice((None, 1, 5, 20)))
            self.assertEqual(plain(store, ask), plain_answer(model, ask))


if __name__ == "__main__":
    unittest.main()
