"""Point 9: bits."""

import inspect
import random
import unittest

from whatindex.bits import Bits


class PutTest(unittest.TestCase):
    def test_the_first_number_of_a_page_and_a_second_one(self):
        bits = Bits(16)
        self.assertEqual(bits.put(5, 1), 1)
        self.assertEqual(bits.put(5, 2), 2)
        self.assertEqual(bits.put(5, 16), 2)
        self.assertEqual(bits.put(5, 17), 1)
        self.assertEqual(bits.put(5, 32), 2)
        self.assertEqual(bits.put(5, 33), 1)
        self.assertEqual(bits.found(5), ([1, 2, 16, 17, 32, 33], 3))

    def test_other_values_have_other_pages(self):
        bits = Bits(16)
        bits.put(5, 1)
        self.assertEqual(bits.put(6, 2), 1)
        self.assertEqual(bits.put(6, 1), 2)
        self.assertEqual(bits.found(5), ([1], 1))
        self.assertEqual(bits.found(6), ([1, 2], 1))

    def test_a_number_under_several_values(self):
        bits = Bits(2)
        for value in ("a", "b", "ab"):
            self.assertEqual(bits.put(value, 7), 1)
        for value in ("a", "b", "ab"):
            self.assertEqual(bits.found(value), ([7], 1))
        self.assertEqual(bits.drop("b", 7), 2)
        self.assertEqual(bits.found("a"), ([7], 1))
        self.assertEqual(bits.found("b"), ([], 0))

    def test_numbers_at_the_ends_of_a_stretch(self):
        for width in (2, 3, 16, 63, 64):
            bits = Bits(width)
            self.assertEqual(bits.put(0, width), 1)
            self.assertEqual(bits.put(0, 1), 2)
            self.assertEqual(bits.found(0), ([1, width], 1))
            self.assertEqual(bits.put(0, width + 1), 1)
            self.assertEqual(bits.found(0), ([1, width, width + 1], 2))
            self.assertEqual(bits.put(0, 2 * width), 2)
            self.assertEqual(bits.put(0, 2 * width + 1), 1)
            self.assertEqual(bits.found(0)[1], 3)

    def test_the_greatest_number(self):
        bits = Bits(2)
        self.assertEqual(bits.put(0, 999), 1)
        self.assertEqual(bits.put(0, 998), 1)
        bits = Bits(3)
        self.assertEqual(bits.put(0, 999), 1)
        self.assertEqual(bits.put(0, 998), 2)

    def test_numbers_are_told_rising(self):
        bits = Bits(2)
        for number in (9, 100, 1, 10, 2):
            bits.put("a", number)
        self.assertEqual(bits.found("a"), ([1, 2, 9, 10, 100], 3))


class DropTest(unittest.TestCase):
    def test_read_and_written(self):
        bits = Bits(2)
        for number in (1, 2, 3):
            bits.put(0, number)
        self.assertEqual(bits.drop(0, 1), 2)
        self.assertEqual(bits.found(0), ([2, 3], 2))
        self.assertEqual(bits.drop(0, 2), 2)
        self.assertEqual(bits.found(0), ([3], 1))

    def test_the_last_one(self):
        bits = Bits(64)
        bits.put(0, 5)
        bits.put(1, 5)
        self.assertEqual(bits.drop(0, 5), 2)
        self.assertEqual(bits.found(0), ([], 0))
        self.assertEqual(bits.kept(), [1])
        self.assertEqual(bits.drop(1, 5), 2)
        self.assertEqual(bits.kept(), [])

    def test_a_page_that_was_gone_is_new_again(self):
        bits = Bits(4)
        bits.put(0, 1)
        bits.put(0, 9)
        bits.drop(0, 1)
        self.assertEqual(bits.put(0, 2), 1)
        bits.drop(0, 9)
        bits.drop(0, 2)
        self.assertEqual(bits.put(0, 9), 1)


class KeptTest(unittest.TestCase):
    def test_rising_numbers(self):
        bits = Bits(2)
        for value in (10, 9, -10, 0, -9, 999, -999):
            bits.put(value, 1)
        self.assertEqual(bits.kept(), [-999, -10, -9, 0, 9, 10, 999])

    def test_rising_words(self):
        bits = Bits(2)
        for value in ("b", "ab", "a", "zz", "z"):
            bits.put(value, 1)
            bits.put(value, 2)
        self.assertEqual(bits.kept(), ["a", "ab", "b", "z", "zz"])

    def test_none(self):
        self.assertEqual(Bits(16).kept(), [])
        self.assertEqual(Bits(16).found("a"), ([], 0))

    def test_asking_for_a_value_does_not_keep_it(self):
        bits = Bits(16)
        bits.found("a")
        self.assertEqual(bits.kept(), [])


class WholeBitsTest(unittest.TestCase):
    def one_run(self, seed):
        chance = random.Random(seed)
        width = chance.choice((2, 3, 16, 64))
        bits, there = Bits(width), set()
        for _ in range(300):
            value, number = chance.randint(-3, 3), chance.randint(1, 80)
            if (value, number) in there:
                there.remove((value, number))
                self.assertEqual(bits.drop(value, number), 2)
            else:
                pages = {(other - 1) // width for kept, other in there if kept == value}
                wanted = 2 if (number - 1) // width in pages else 1
                there.add((value, number))
                self.assertEqual(bits.put(value, number), wanted)
            numbers = sorted(other for kept, other in there if kept == value)
            pages = {(other - 1) // width for other in numbers}
            self.assertEqual(bits.found(value), (numbers, len(pages)))
            self.assertEqual(bits.kept(), sorted({kept for kept, other in there}))

    def test_many_edits(self):
        for seed in range(30):
            self.one_run(seed)


class OwnTest(unittest.TestCase):
    """Point 2: what is handed in and what is told."""

    def test_the_parameters_are_as_listed(self):
        self.assertEqual(str(inspect.signature(Bits)), "(width)")
        listed = {
            "put": "(self, value, number)",
            "drop": "(self, value, number)",
            "found": "(self, value)",
            "kept": "(self)",
        }
        for name, words in listed.items():
            self.assertEqual(str(inspect.signature(vars(Bits)[name])), words)

    def test_by_names(self):
        bits = Bits(width=2)
        self.assertEqual(bits.put(number=1, value="a"), 1)
        self.assertEqual(bits.found(value="a"), ([1], 1))
        self.assertEqual(bits.drop(number=1, value="a"), 2)

    def test_told_lists_are_the_askers_own(self):
        bits = Bits(2)
        bits.put("a", 1)
        bits.found("a")[0].append(2)
        bits.found("b")[0].append(2)
        bits.kept().append("z")
        self.assertEqual(bits.found("a"), ([1], 1))
        self.assertEqual(bits.found("b"), ([], 0))
        self.assertEqual(bits.kept(), ["a"])

    def test_later_deeds_change_nothing_told(self):
        bits = Bits(2)
        bits.put("a", 1)
        found, kept = bits.found("a"), bits.kept()
        bits.put("a", 2)
        bits.put("b", 2)
        bits.drop("a", 1)
        self.assertEqual(found, ([1], 1))
        self.assertEqual(kept, ["a"])

    def test_two_share_nothing(self):
        one, two = Bits(2), Bits(64)
        one.put("a", 1)
        two.put("a", 2)
        self.assertEqual(one.put("a", 3), 1)
        self.assertEqual(two.put("a", 3), 2)
        one.drop("a", 1)
        self.assertEqual(one.found("a"), ([3], 1))
        self.assertEqual(two.found("a"), ([2, 3], 1))


if __name__ == "__main__":
    unittest.main()
