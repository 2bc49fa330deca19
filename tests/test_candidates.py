"""Point 30: the candidates of an ask; those of an advisor are tested with it."""

import inspect
import unittest

from tests.advisors import plain_candidates
from tests.worlds import World
from whatindex.candidates import candidates
from whatindex.indexes import is_design

FORM = tuple((name, "number") for name in "abcdef")


def ask(wants, *conditions, order="", first=None):
    return (tuple(wants), conditions, tuple(order), first)


def fixed(column):
    return (column, "is", 1)


def bounded(column):
    return (column, "from", None, 5)


def tree(columns):
    return ("tree", tuple(columns))


def hashed(columns):
    return ("hash", tuple(columns))


def bits(column):
    return ("bits", (column,))


class CandidatesTest(unittest.TestCase):
    def check(self, question, *wanted):
        told = candidates(FORM, question)
        self.assertIs(type(told), list)
        self.assertEqual(told, sorted(wanted))

    def test_nothing_but_wants(self):
        self.check(ask("a"), tree("a"))
        self.check(ask("fbda"), tree("abdf"))
        self.check(ask("fbdac"))

    def test_a_fixed_column(self):
        self.check(ask("d", fixed("b")), hashed("b"), tree("b"), tree("bd"), bits("b"))
        self.check(ask("b", fixed("b")), hashed("b"), tree("b"), bits("b"))
        self.check(ask("acdef", fixed("b")), hashed("b"), tree("b"), bits("b"))

    def test_a_bounded_column(self):
        self.check(ask("a", bounded("c")), tree("c"), tree("ca"), bits("c"))
        self.check(ask("abdef", bounded("c")), tree("c"), bits("c"))

    def test_an_order(self):
        self.check(ask("a", order="cb"), tree("cb"), tree("abc"))
        self.check(ask("abcdef", order="fa"), tree("fa"))

    def test_fixed_and_bounded_ones_go_in_the_forms_order(self):
        question = ask("f", fixed("c"), bounded("d"), fixed("a"), bounded("b"))
        self.check(question, hashed("ac"), tree("acb"), tree("ac"), *[bits(column) for column in "abcd"])

    def test_the_order_goes_as_it_is(self):
        question = ask("f", fixed("c"), bounded("d"), fixed("a"), bounded("b"), order="ecd")
        self.check(question, hashed("ac"), tree("acb"), tree("aced"), *[bits(column) for column in "abcd"])

    def test_columns_fixed_bounded_and_ordered_alike(self):
        self.check(ask("a", fixed("a"), order="a"), hashed("a"), tree("a"), bits("a"))
        self.check(ask("a", bounded("a"), order="a"), tree("a"), bits("a"))
        question = ask("b", bounded("a"), bounded("c"), order="ca")
        self.check(question, tree("a"), tree("ca"), tree("abc"), bits("a"), bits("c"))

    def test_at_most_four_needed_ones(self):
        question = ask("d", fixed("b"), bounded("c"), order="a")
        self.check(question, hashed("b"), tree("bc"), tree("ba"), tree("bcad"), bits("b"), bits("c"))
        question = ask("de", fixed("b"), bounded("c"), order="a")
        self.check(question, hashed("b"), tree("bc"), tree("ba"), bits("b"), bits("c"))
        # A second bounded one is one of the others.
        question = ask("a", fixed("d"), bounded("c"), bounded("b"))
        self.check(question, hashed("d"), tree("db"), tree("d"), tree("dbac"), bits("b"), bits("c"), bits("d"))

    def test_more_than_three_and_four_fixed_ones(self):
        four = [fixed(column) for column in "dcba"]
        self.check(ask("a", *four), hashed("abc"), tree("abcd"), *[bits(column) for column in "abcd"])
        self.check(ask("a", *four, bounded("e"), order="f"), hashed("abc"), tree("abcd"), *[bits(each) for each in "abcde"])
        three = [fixed(column) for column in "fca"]
        question = ask("b", *three, bounded("e"), bounded("d"), order="be")
        self.check(question, hashed("acf"), tree("acfd"), tree("acfb"), *[bits(each) for each in "acdef"])
        six = [fixed(column) for column in "fedcba"]
        self.check(ask("a", *six), hashed("abc"), tree("abcd"), *[bits(column) for column in "abcdef"])

    def test_first_is_nothing(self):
        for first in (None, 1, 20):
            self.check(ask("a", order="b", first=first), tree("b"), tree("ab"))

    def test_the_list_is_the_askers_own(self):
        candidates(FORM, ask("a", fixed("b"))).clear()
        self.check(ask("a", fixed("b")), hashed("b"), tree("b"), tree("ba"), bits("b"))

    def test_parameters(self):
        self.assertEqual(list(inspect.signature(candidates).parameters), ["form", "ask"])
        self.assertEqual(candidates(ask=ask("a"), form=FORM), [tree("a")])

    def test_by_chance(self):
        for seed in range(200):
            world = World(seed)
            for _ in range(10):
                question = world.ask()
                told = candidates(world.form, question)
                self.assertEqual(told, plain_candidates(world.form, question))
                self.assertTrue(all(is_design(world.form, design) for design in told))


if __name__ == "__main__":
    unittest.main()
