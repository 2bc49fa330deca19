"""Points 6 and 7: runs, their leaves, levels and pages, and the parts of a stretch."""

import inspect
import random
import unittest

from tests.models import PlainRun
from whatindex.runs import Run


def ones(numbers):
    """Things of one value, which is their number, too."""
    return [((number,), number) for number in numbers]


def values_of(leaves):
    return [[values[0] for values, number in leaf] for leaf in leaves]


class MadeTest(unittest.TestCase):
    def test_of_no_thing(self):
        for things in ((), []):
            run = Run(most=4, fan=3, things=things)
            self.assertEqual(run.leaves(), [])
            self.assertEqual((run.levels(), run.pages()), (0, 0))
            self.assertEqual(run.parts(), [])
        self.assertEqual(Run(most=4, fan=3).leaves(), [])

    def test_of_one(self):
        run = Run(most=4, fan=3, things=ones([5]))
        self.assertEqual(run.leaves(), [[((5,), 5)]])
        self.assertEqual((run.levels(), run.pages()), (0, 1))

    def test_of_just_most_and_one_more(self):
        for most in range(2, 9):
            run = Run(most=most, fan=3, things=ones(range(1, most + 1)))
            self.assertEqual(run.leaves(), [ones(range(1, most + 1))])
            run = Run(most=most, fan=3, things=ones(range(1, most + 2)))
            self.assertEqual(run.leaves(), [ones(range(1, most + 1)), ones([most + 1])])

    def test_of_many_all_leaves_but_the_last_are_full(self):
        run = Run(most=4, fan=3, things=ones(range(1, 19)))
        self.assertEqual([len(leaf) for leaf in run.leaves()], [4, 4, 4, 4, 2])

    def test_in_any_order_as_a_list_and_as_a_tuple(self):
        things = ones(range(1, 12))
        wanted = [ones([1, 2, 3, 4]), ones([5, 6, 7, 8]), ones([9, 10, 11])]
        for seed in range(5):
            mixed = list(things)
            random.Random(seed).shuffle(mixed)
            self.assertEqual(Run(most=4, fan=3, things=mixed).leaves(), wanted)
            self.assertEqual(Run(most=4, fan=3, things=tuple(mixed)).leaves(), wanted)

    def test_things_are_ordered_by_values_then_by_number(self):
        things = [(("b", 1), 1), (("a", 9), 3), (("a", 9), 2), (("a", -9), 9), (("ab", 0), 1)]
        run = Run(most=8, fan=2, things=things)
        wanted = [(("a", -9), 9), (("a", 9), 2), (("a", 9), 3), (("ab", 0), 1), (("b", 1), 1)]
        self.assertEqual(run.leaves(), [wanted])

    def test_things_of_four_values_that_differ_in_the_last(self):
        things = [(("a", 1, "b", last), 7) for last in (3, -1, 2)]
        run = Run(most=2, fan=2, things=things)
        self.assertEqual([[values[3] for values, number in leaf] for leaf in run.leaves()], [[-1, 2], [3]])

    def test_numbers_below_0_and_of_several_figures(self):
        run = Run(most=8, fan=2, things=[((10,), 1), ((9,), 1), ((-10,), 1), ((-9,), 1), ((0,), 1)])
        self.assertEqual(values_of(run.leaves()), [[-10, -9, 0, 9, 10]])


class PutTest(unittest.TestCase):
    def run_of(self, numbers, most=4, fan=3):
        return Run(most=most, fan=fan, things=ones(numbers))

    def test_into_no_leaf(self):
        run = Run(most=4, fan=3)
        self.assertEqual(run.put(((5,), 1)), 1)
        self.assertEqual(run.leaves(), [[((5,), 1)]])

    def test_into_one_leaf(self):
        run = self.run_of([10, 20])
        self.assertEqual(run.put(((15,), 15)), 2)
        self.assertEqual(run.put(((5,), 5)), 2)
        self.assertEqual(values_of(run.leaves()), [[5, 10, 15, 20]])

    def test_a_full_leaf_is_parted_odd(self):
        run = self.run_of([10, 20, 30, 40])
        self.assertEqual(run.put(((25,), 25)), 3)
        self.assertEqual(values_of(run.leaves()), [[10, 20, 25], [30, 40]])

    def test_a_full_leaf_is_parted_even(self):
        run = self.run_of([10, 20, 30], most=3)
        self.assertEqual(run.put(((40,), 40)), 3)
        self.assertEqual(values_of(run.leaves()), [[10, 20], [30, 40]])
        run = self.run_of([10, 20], most=2)
        self.assertEqual(run.put(((5,), 5)), 3)
        self.assertEqual(values_of(run.leaves()), [[5, 10], [20]])

    def test_ahead_of_all_goes_to_the_first_leaf(self):
        run = self.run_of([10, 20, 30, 40, 50, 60])
        # One level, one read, two written, for the first leaf is full.
        self.assertEqual(run.put(((5,), 5)), 4)
        self.assertEqual(values_of(run.leaves()), [[5, 10, 20], [30, 40], [50, 60]])
        self.assertEqual(run.put(((1,), 1)), 3)
        self.assertEqual(values_of(run.leaves()), [[1, 5, 10, 20], [30, 40], [50, 60]])

    def test_behind_all_goes_to_the_last_leaf(self):
        run = self.run_of([10, 20, 30, 40, 50, 60])
        self.assertEqual(run.put(((70,), 70)), 3)
        self.assertEqual(values_of(run.leaves()), [[10, 20, 30, 40], [50, 60, 70]])

    def test_between_two_leaves_goes_to_the_earlier_one(self):
        run = self.run_of([10, 20, 30, 40, 50, 60])
        self.assertEqual(run.put(((45,), 45)), 4)
        self.assertEqual(values_of(run.leaves()), [[10, 20, 30], [40, 45], [50, 60]])

    def test_amid_a_later_leaf_a_new_leaf_stands_behind_it(self):
        run = self.run_of([1, 2, 3, 4, 5, 6], most=2)
        self.assertEqual(run.put(((3,), 30)), 4)
        told = [[number for values, number in leaf] for leaf in run.leaves()]
        self.assertEqual(told, [[1, 2], [3, 30], [4], [5, 6]])

    def test_equal_values_are_told_apart_by_the_number(self):
        run = Run(most=2, fan=3, things=[((7,), 2), ((7,), 4), ((7,), 6), ((7,), 8)])
        # The second leaf begins with (7,), 6: 5 is less, 7 is more.
        self.assertEqual(run.put(((7,), 5)), 4)
        self.assertEqual(run.leaves(), [[((7,), 2), ((7,), 4)], [((7,), 5)], [((7,), 6), ((7,), 8)]])
        self.assertEqual(run.put(((7,), 1)), 4)
        self.assertEqual(run.leaves()[:2], [[((7,), 1), ((7,), 2)], [((7,), 4)]])

    def test_the_levels_are_those_ahead_of_it(self):
        # Three leaves under a fan of three have one level; the fourth comes by this put.
        run = self.run_of(range(1, 7), most=2, fan=3)
        self.assertEqual(run.levels(), 1)
        self.assertEqual(run.put(((7,), 7)), 1 + 1 + 2)
        self.assertEqual(run.levels(), 2)
        self.assertEqual(run.put(((8,), 8)), 2 + 1 + 1)


class DropTest(unittest.TestCase):
    def test_from_one_leaf(self):
        run = Run(most=4, fan=3, things=ones([1, 2, 3]))
        self.assertEqual(run.drop(((2,), 2)), 2)
        self.assertEqual(values_of(run.leaves()), [[1, 3]])

    def test_leaves_are_not_joined(self):
        run = Run(most=4, fan=3, things=ones(range(1, 9)))
        for number in (2, 3, 4, 6, 7):
            self.assertEqual(run.drop(((number,), number)), 3)
        self.assertEqual(values_of(run.leaves()), [[1], [5, 8]])

    def test_the_first_thing_of_a_leaf(self):
        run = Run(most=2, fan=8, things=ones(range(1, 7)))
        self.assertEqual(run.drop(((3,), 3)), 3)
        self.assertEqual(values_of(run.leaves()), [[1, 2], [4], [5, 6]])

    def test_a_leaf_without_things_is_gone(self):
        run = Run(most=2, fan=2, things=ones(range(1, 6)))
        self.assertEqual(run.levels(), 2)
        # The levels ahead of the drop count, though one fewer stands behind it.
        self.assertEqual(run.drop(((5,), 5)), 4)
        self.assertEqual(values_of(run.leaves()), [[1, 2], [3, 4]])
        self.assertEqual(run.levels(), 1)

    def test_the_first_leaf_is_gone(self):
        run = Run(most=2, fan=2, things=ones(range(1, 5)))
        run.drop(((1,), 1))
        run.drop(((2,), 2))
        self.assertEqual(values_of(run.leaves()), [[3, 4]])
        self.assertEqual(run.put(((1,), 1)), 3)
        self.assertEqual(values_of(run.leaves()), [[1, 3], [4]])

    def test_the_last_thing(self):
        run = Run(most=4, fan=3, things=ones([1]))
        self.assertEqual(run.drop(((1,), 1)), 2)
        self.assertEqual((run.leaves(), run.levels(), run.pages()), ([], 0, 0))
        self.assertEqual(run.put(((1,), 1)), 1)

    def test_of_equal_values_the_one_with_the_number(self):
        things = [((7, "a"), number) for number in range(1, 8)]
        run = Run(most=2, fan=2, things=things)
        run.drop(((7, "a"), 4))
        self.assertEqual([thing for leaf in run.leaves() for thing in leaf], things[:3] + things[4:])


class LevelsTest(unittest.TestCase):
    def told(self, leaves, fan):
        run = Run(most=2, fan=fan, things=ones(range(1, 2 * leaves + 1)))
        self.assertEqual(len(run.leaves()), leaves)
        return run.levels(), run.pages()

    def test_one_leaf(self):
        for fan in range(2, 9):
            self.assertEqual(self.told(1, fan), (0, 1))

    def test_as_many_as_fan_and_one_more(self):
        for fan in range(2, 9):
            self.assertEqual(self.told(fan, fan), (1, fan + 1))
            self.assertEqual(self.told(fan + 1, fan), (2, fan + 1 + 2 + 1))

    def test_two_leaves(self):
        for fan in range(2, 9):
            self.assertEqual(self.told(2, fan), (1, 3))

    def test_fan_times_fan_and_one_more(self):
        for fan in range(2, 9):
            square = fan * fan
            self.assertEqual(self.told(square, fan), (2, square + fan + 1))
            self.assertEqual(self.told(square + 1, fan), (3, square + 1 + fan + 1 + 2 + 1))

    def test_some_counts_by_hand(self):
        self.assertEqual(self.told(5, 2), (3, 5 + 3 + 2 + 1))
        self.assertEqual(self.told(27, 3), (3, 27 + 9 + 3 + 1))
        self.assertEqual(self.told(28, 3), (4, 28 + 10 + 4 + 2 + 1))


class PartsTest(unittest.TestCase):
    def setUp(self):
        pairs = [("a", 1), ("a", 5), ("a", 5), ("b", -3), ("b", 0), ("b", 4), ("c", 2), ("d", 2)]
        self.things = [(pair, at + 1) for at, pair in enumerate(pairs)]
        self.run = Run(most=3, fan=3, things=self.things)

    def numbers(self, *told, **bounds):
        return [[number for values, number in part] for part in self.run.parts(*told, **bounds)]

    def test_by_no_first_value(self):
        self.assertEqual(self.run.parts(), self.run.leaves())
        self.assertEqual(self.numbers(()), [[1, 2, 3], [4, 5, 6], [7, 8]])

    def test_by_some(self):
        self.assertEqual(self.numbers(("a",)), [[1, 2, 3]])
        self.assertEqual(self.numbers(("b",)), [[4, 5, 6]])
        self.assertEqual(self.numbers(("d",)), [[8]])

    def test_by_all(self):
        self.assertEqual(self.numbers(("a", 5)), [[2, 3]])
        self.assertEqual(self.numbers(("a", 5), low=None, high=None), [[2, 3]])
        self.assertEqual(self.numbers(("c", 2)), [[7]])

    def test_by_bounds_alone(self):
        self.assertEqual(self.numbers(low="b"), [[4, 5, 6], [7, 8]])
        self.assertEqual(self.numbers(high="b"), [[1, 2, 3], [4, 5, 6]])
        self.assertEqual(self.numbers(low="aa", high="c"), [[4, 5, 6], [7]])

    def test_by_some_and_bounds(self):
        self.assertEqual(self.numbers(("b",), low=0), [[5, 6]])
        self.assertEqual(self.numbers(("b",), high=0), [[4, 5]])
        self.assertEqual(self.numbers(("b",), low=-3, high=4), [[4, 5, 6]])
        self.assertEqual(self.numbers(("b",), low=-2, high=3), [[5]])

    def test_bounds_alike(self):
        self.assertEqual(self.numbers(("a",), low=5, high=5), [[2, 3]])
        self.assertEqual(self.numbers(low="c", high="c"), [[7]])
        self.assertEqual(self.numbers(("b",), low=0, high=0), [[5]])

    def test_bounds_turned_about(self):
        self.assertEqual(self.numbers(("a",), low=5, high=1), [])
        self.assertEqual(self.numbers(low="d", high="a"), [])

    def test_values_that_no_thing_has(self):
        self.assertEqual(self.numbers(("e",)), [])
        self.assertEqual(self.numbers(("a", 2)), [])
        self.assertEqual(self.numbers(("a",), low=6), [])
        self.assertEqual(self.numbers(("a",), high=0), [])
        self.assertEqual(self.numbers(low="e"), [])

    def test_a_bound_of_0_is_a_bound(self):
        run = Run(most=8, fan=2, things=ones([1, 2]) + [((-1,), 3), ((0,), 4)])
        self.assertEqual(values_of(run.parts(low=0)), [[0, 1, 2]])
        self.assertEqual(values_of(run.parts(high=0)), [[-1, 0]])

    def test_parts_of_several_leaves(self):
        things = [((1, 0), 1)] + [((2, at), at + 1) for at in range(1, 8)] + [((3, 0), 9)]
        run = Run(most=2, fan=2, things=things)
        told = [[values[1] for values, number in part] for part in run.parts((2,))]
        self.assertEqual(told, [[1], [2, 3], [4, 5], [6, 7]])
        told = [[values[1] for values, number in part] for part in run.parts((2,), low=3, high=6)]
        self.assertEqual(told, [[3], [4, 5], [6]])

    def test_of_a_run_without_things(self):
        run = Run(most=2, fan=2)
        self.assertEqual(run.parts((1,), low=1, high=2), [])


class WholeRunTest(unittest.TestCase):
    """Many edits in any order, told side by side with the document's words."""

    def made_thing(self, chance, kinds):
        words = ("a", "b", "ab", "z")
        values = tuple(chance.choice(words) if kind == "word" else chance.randint(-2, 2) for kind in kinds)
        return values, chance.randint(1, 12)

    def bounds(self, chance, kinds, many):
        if many == len(kinds):
            return None, None
        choices = ("a", "aa", "b", "z", None) if kinds[many] == "word" else (-2, 0, 1, 3, None)
        return chance.choice(choices), chance.choice(choices)

    def compare(self, run, plain, chance, kinds):
        self.assertEqual(run.leaves(), plain.all)
        self.assertEqual((run.levels(), run.pages()), (plain.levels(), plain.pages()))
        many = chance.randint(0, len(kinds))
        same = self.made_thing(chance, kinds)[0][:many]
        low, high = self.bounds(chance, kinds, many)
        self.assertEqual(run.parts(same, low=low, high=high), plain.parts(same, low, high))

    def one_run(self, seed):
        chance = random.Random(seed)
        kinds = [chance.choice(("word", "number")) for _ in range(chance.randint(1, 4))]
        most, fan = chance.randint(2, 8), chance.randint(2, 8)
        there = {self.made_thing(chance, kinds) for _ in range(chance.choice((0, 1, 20, 60)))}
        run = Run(most=most, fan=fan, things=list(there))
        plain = PlainRun(most, fan, there)
        for _ in range(120):
            thing = self.made_thing(chance, kinds)
            if thing in there:
                there.remove(thing)
                self.assertEqual(run.drop(thing), plain.drop(thing))
            else:
                there.add(thing)
                self.assertEqual(run.put(thing), plain.put(thing))
            self.compare(run, plain, chance, kinds)
        for thing in sorted(there):
            self.assertEqual(run.drop(thing), plain.drop(thing))
        self.assertEqual(run.leaves(), [])

    def test_many_edits(self):
        for seed in range(60):
            self.one_run(seed)

    def test_leaves_stay_rising_and_within_most(self):
        run = Run(most=3, fan=2)
        numbers = list(range(1, 100))
        random.Random(1).shuffle(numbers)
        for number in numbers:
            run.put(((number % 7,), number))
            leaves = run.leaves()
            flat = [thing for leaf in leaves for thing in leaf]
            self.assertEqual(flat, sorted(flat))
            self.assertTrue(all(1 <= len(leaf) <= 3 for leaf in leaves))


class OwnTest(unittest.TestCase):
    """Point 2: what is handed in and what is told."""

    def test_the_parameters_are_as_listed(self):
        self.assertEqual(str(inspect.signature(Run)), "(*, most, fan, things=())")
        self.assertEqual(str(inspect.signature(Run.put)), "(self, thing)")
        self.assertEqual(str(inspect.signature(Run.drop)), "(self, thing)")
        self.assertEqual(str(inspect.signature(Run.parts)), "(self, same=(), *, low=None, high=None)")
        for name in ("leaves", "levels", "pages"):
            self.assertEqual(str(inspect.signature(getattr(Run, name))), "(self)")
        for name in ("put", "drop", "leaves", "levels", "pages", "parts"):
            self.assertIn(name, vars(Run))

    def test_by_names(self):
        run = Run(things=ones([3]), fan=2, most=2)
        self.assertEqual(run.put(thing=((4,), 4)), 2)
        self.assertEqual(run.drop(thing=((3,), 3)), 2)
        self.assertEqual(run.parts(same=(4,)), [[((4,), 4)]])
        with self.assertRaises(TypeError):
            run.parts((), 1, 2)
        with self.assertRaises(TypeError):
            Run(2, 2)

    def test_nothing_handed_in_is_changed(self):
        things = ones([3, 1, 2])
        run = Run(most=2, fan=2, things=things)
        run.put(((0,), 9))
        run.drop(((3,), 3))
        self.assertEqual(things, ones([3, 1, 2]))

    def test_what_is_handed_in_may_be_changed_behind_the_call(self):
        for numbers in ([1], [1, 2], [1, 2, 3]):
            things = ones(numbers)
            run = Run(most=2, fan=2, things=things)
            things.append(((9,), 9))
            del things[0]
            self.assertEqual([thing for leaf in run.leaves() for thing in leaf], ones(numbers))

    def test_told_lists_are_the_askers_own(self):
        run = Run(most=2, fan=2, things=ones([1, 2, 3]))
        for ask in (run.leaves, run.parts, lambda: run.parts((3,)), lambda: run.parts(low=2)):
            ahead = ask()
            spoilt = ask()
            spoilt[0].append("x")
            spoilt[-1].clear()
            spoilt.append([])
            self.assertEqual(ask(), ahead)
        self.assertEqual(run.leaves(), [ones([1, 2]), ones([3])])

    def test_later_deeds_change_nothing_told(self):
        run = Run(most=4, fan=2, things=ones([1, 2]))
        leaves, parts = run.leaves(), run.parts()
        run.put(((3,), 3))
        run.drop(((1,), 1))
        self.assertEqual(leaves, [ones([1, 2])])
        self.assertEqual(parts, [ones([1, 2])])

    def test_two_runs_share_nothing(self):
        things = ones([1, 2])
        one, two = Run(most=2, fan=2, things=things), Run(most=2, fan=2, things=things)
        first, second = Run(most=2, fan=2), Run(most=2, fan=2)
        for number in (1, 2):
            one.put(((number + 2,), number + 2))
            two.drop(((number,), number))
            first.put(((number,), number))
        self.assertEqual(one.leaves(), [ones([1, 2]), ones([3, 4])])
        self.assertEqual(two.leaves(), [])
        self.assertEqual(first.leaves(), [ones([1, 2])])
        self.assertEqual(second.leaves(), [])


if __name__ == "__main__":
    unittest.main()
