"""Point 8: buckets."""

import inspect
import random
import unittest

from tests.models import PlainBuckets
from whatindex.buckets import Buckets
from whatindex.values import mark

# By hand: the mark of (n,) is 208 and n for n from -208 to 800; 208 is 26 times 8.


def thing(value, number):
    return ((value,), number)


class MadeTest(unittest.TestCase):
    def test_a_list_for_each_bucket(self):
        for count in range(1, 9):
            self.assertEqual(Buckets(count=count, most=2).pages(), [[] for _ in range(count)])

    def test_the_bucket_of_a_thing(self):
        for count in range(1, 9):
            for value in (0, 1, 7, 8, -1, -209, -208, 999):
                buckets = Buckets(count=count, most=4)
                buckets.put(thing(value, 5))
                wanted = [[] for _ in range(count)]
                wanted[mark((value,)) % count] = [[thing(value, 5)]]
                self.assertEqual(buckets.pages(), wanted)

    def test_buckets_by_hand(self):
        buckets = Buckets(count=8, most=4)
        buckets.put(thing(0, 1))
        buckets.put(thing(3, 2))
        buckets.put(thing(8, 3))
        # The mark of ("a", 0) is 695, which is 86 times 8 and 7.
        buckets.put((("a", 0), 4))
        wanted = [[[thing(0, 1), thing(8, 3)]], [], [], [[thing(3, 2)]], [], [], [], [[(("a", 0), 4)]]]
        self.assertEqual(buckets.pages(), wanted)

    def test_the_number_does_not_count_for_the_bucket(self):
        buckets = Buckets(count=8, most=8)
        for number in (1, 2, 500, 999):
            buckets.put(thing(5, number))
        self.assertEqual(buckets.pages()[5], [[thing(5, number) for number in (1, 2, 500, 999)]])


class PutTest(unittest.TestCase):
    def test_pages_fill_one_behind_the_other(self):
        for most in (2, 8):
            buckets = Buckets(count=1, most=most)
            for number in range(1, 3 * most + 2):
                page = (number - 1) // most
                is_new = (number - 1) % most == 0
                wanted = page + 1 if is_new else page + 2
                self.assertEqual(buckets.put(thing(number, number)), wanted, (most, number))
            self.assertEqual([len(page) for page in buckets.pages()[0]], [most, most, most, 1])

    def test_other_buckets_do_not_count(self):
        buckets = Buckets(count=8, most=2)
        for number in range(1, 8):
            buckets.put(thing(0, number))
        self.assertEqual(buckets.put(thing(1, 1)), 1)
        self.assertEqual(buckets.put(thing(1, 2)), 2)
        self.assertEqual(buckets.put(thing(1, 3)), 2)
        self.assertEqual(buckets.put(thing(1, 4)), 3)
        self.assertEqual(buckets.put(thing(1, 5)), 3)

    def test_behind_those_there_whatever_their_order(self):
        buckets = Buckets(count=1, most=4)
        for value, number in ((5, 1), (3, 9), (3, 2), (4, 1)):
            buckets.put(thing(value, number))
        self.assertEqual(buckets.pages(), [[[thing(5, 1), thing(3, 9), thing(3, 2), thing(4, 1)]]])

    def test_the_first_page_with_room_where_an_earlier_page_lost_a_thing(self):
        buckets = Buckets(count=1, most=2)
        for number in range(1, 7):
            buckets.put(thing(number, number))
        self.assertEqual(buckets.drop(thing(3, 3)), 3)
        self.assertEqual(buckets.drop(thing(1, 1)), 2)
        self.assertEqual(buckets.put(thing(7, 7)), 2)
        self.assertEqual(buckets.put(thing(8, 8)), 3)
        # All are full again: three are gone through and a fourth one is written.
        self.assertEqual(buckets.put(thing(9, 9)), 4)
        told = [[number for values, number in page] for page in buckets.pages()[0]]
        self.assertEqual(told, [[2, 7], [4, 8], [5, 6], [9]])


class DropTest(unittest.TestCase):
    def setUp(self):
        self.buckets = Buckets(count=1, most=2)
        for number in range(1, 6):
            self.buckets.put(thing(number, number))

    def numbers(self):
        return [[number for values, number in page] for page in self.buckets.pages()[0]]

    def test_pages_up_to_its_own(self):
        self.assertEqual(self.buckets.drop(thing(5, 5)), 4)
        self.assertEqual(self.buckets.drop(thing(4, 4)), 3)
        self.assertEqual(self.buckets.drop(thing(1, 1)), 2)
        self.assertEqual(self.numbers(), [[2], [3]])

    def test_the_others_keep_their_order(self):
        buckets = Buckets(count=1, most=4)
        for number in (4, 1, 3, 2):
            buckets.put(thing(0, number))
        buckets.drop(thing(0, 1))
        self.assertEqual(buckets.pages(), [[[thing(0, 4), thing(0, 3), thing(0, 2)]]])

    def test_things_do_not_move_to_other_pages(self):
        self.buckets.drop(thing(1, 1))
        self.assertEqual(self.numbers(), [[2], [3, 4], [5]])

    def test_a_page_without_things_is_gone(self):
        self.buckets.drop(thing(3, 3))
        self.assertEqual(self.buckets.drop(thing(4, 4)), 3)
        self.assertEqual(self.numbers(), [[1, 2], [5]])
        self.assertEqual(self.buckets.drop(thing(5, 5)), 3)
        self.assertEqual(self.numbers(), [[1, 2]])

    def test_the_first_page_is_gone(self):
        self.buckets.drop(thing(2, 2))
        self.buckets.drop(thing(1, 1))
        self.assertEqual(self.numbers(), [[3, 4], [5]])
        self.assertEqual(self.buckets.drop(thing(3, 3)), 2)

    def test_the_last_thing(self):
        for number in (1, 2, 3, 4, 5):
            self.buckets.drop(thing(number, number))
        self.assertEqual(self.buckets.pages(), [[]])
        self.assertEqual(self.buckets.put(thing(1, 1)), 1)

    def test_of_equal_values_the_one_with_the_number(self):
        buckets = Buckets(count=4, most=2)
        for number in (1, 2, 3):
            buckets.put((("a", 5), number))
        self.assertEqual(buckets.drop((("a", 5), 2)), 2)
        self.assertEqual(buckets.found(("a", 5)), ([(("a", 5), 1), (("a", 5), 3)], 2))


class FoundTest(unittest.TestCase):
    def test_in_a_bucket_without_pages(self):
        buckets = Buckets(count=8, most=2)
        buckets.put(thing(1, 1))
        self.assertEqual(buckets.found((2,)), ([], 0))
        self.assertEqual(Buckets(count=1, most=2).found(("a", 1)), ([], 0))

    def test_other_values_in_a_bucket_with_pages(self):
        buckets = Buckets(count=8, most=2)
        for number in (1, 2, 3):
            buckets.put(thing(1, number))
        self.assertEqual(buckets.found((9,)), ([], 2))

    def test_all_with_these_values_in_order_of_pages(self):
        buckets = Buckets(count=1, most=2)
        for value, number in ((1, 5), (2, 1), (1, 4), (1, 3), (2, 2)):
            buckets.put(thing(value, number))
        self.assertEqual(buckets.found((1,)), ([thing(1, 5), thing(1, 4), thing(1, 3)], 3))
        self.assertEqual(buckets.found((2,)), ([thing(2, 1), thing(2, 2)], 3))
        self.assertEqual(buckets.found((3,)), ([], 3))

    def test_a_tuple_of_a_list_and_a_number(self):
        told = Buckets(count=2, most=2).found((1,))
        self.assertIs(type(told), tuple)
        self.assertIs(type(told[0]), list)

    def test_all_values_count(self):
        buckets = Buckets(count=1, most=8)
        buckets.put((("a", 1, "b"), 1))
        buckets.put((("a", 1, "c"), 2))
        self.assertEqual(buckets.found(("a", 1, "b")), ([(("a", 1, "b"), 1)], 1))

    def test_none_are_left_behind_a_drop(self):
        buckets = Buckets(count=2, most=2)
        buckets.put(thing(1, 1))
        buckets.drop(thing(1, 1))
        self.assertEqual(buckets.found((1,)), ([], 0))


class WholeBucketsTest(unittest.TestCase):
    def one_run(self, seed):
        chance = random.Random(seed)
        count, most = chance.choice((1, 2, 3, 5, 8)), chance.choice((2, 3, 8))
        many = chance.randint(1, 4)
        buckets, plain, there = Buckets(count=count, most=most), PlainBuckets(count, most), set()
        for _ in range(200):
            values = tuple(chance.choice(("a", "b", "zz")) for _ in range(many - 1)) + (chance.randint(-2, 2),)
            new = (values, chance.randint(1, 10))
            if new in there:
                there.remove(new)
                self.assertEqual(buckets.drop(new), plain.drop(new))
            else:
                there.add(new)
                self.assertEqual(buckets.put(new), plain.put(new))
            self.assertEqual(buckets.pages(), plain.all)
            self.assertEqual(buckets.found(values), plain.found(values))
        for old in sorted(there):
            self.assertEqual(buckets.drop(old), plain.drop(old))
        self.assertEqual(buckets.pages(), [[] for _ in range(count)])

    def test_many_edits(self):
        for seed in range(40):
            self.one_run(seed)


class OwnTest(unittest.TestCase):
    """Point 2: what is handed in and what is told."""

    def test_the_parameters_are_as_listed(self):
        self.assertEqual(str(inspect.signature(Buckets)), "(*, count, most)")
        listed = {"put": "(self, thing)", "drop": "(self, thing)", "pages": "(self)", "found": "(self, values)"}
        for name, words in listed.items():
            self.assertEqual(str(inspect.signature(vars(Buckets)[name])), words)

    def test_by_names(self):
        buckets = Buckets(most=2, count=1)
        self.assertEqual(buckets.put(thing=thing(1, 1)), 1)
        self.assertEqual(buckets.found(values=(1,)), ([thing(1, 1)], 1))
        self.assertEqual(buckets.drop(thing=thing(1, 1)), 2)
        with self.assertRaises(TypeError):
            Buckets(1, 2)

    def test_told_lists_are_the_askers_own(self):
        buckets = Buckets(count=1, most=2)
        for number in (1, 2, 3):
            buckets.put(thing(1, number))
        ahead = buckets.pages()
        spoilt = buckets.pages()
        spoilt[0][0].clear()
        spoilt[0].append([])
        spoilt.append([])
        buckets.found((1,))[0].clear()
        buckets.found((2,))[0].append(1)
        self.assertEqual(buckets.pages(), ahead)
        self.assertEqual(buckets.found((1,)), ([thing(1, 1), thing(1, 2), thing(1, 3)], 2))
        self.assertEqual(buckets.found((2,)), ([], 2))

    def test_later_deeds_change_nothing_told(self):
        buckets = Buckets(count=1, most=2)
        buckets.put(thing(1, 1))
        pages, found = buckets.pages(), buckets.found((1,))
        buckets.put(thing(1, 2))
        buckets.put(thing(1, 3))
        buckets.drop(thing(1, 1))
        self.assertEqual(pages, [[[thing(1, 1)]]])
        self.assertEqual(found, ([thing(1, 1)], 1))

    def test_two_share_nothing(self):
        one, two = Buckets(count=2, most=2), Buckets(count=2, most=2)
        one.put(thing(1, 1))
        two.put(thing(1, 2))
        one.put(thing(1, 3))
        self.assertEqual(one.found((1,)), ([thing(1, 1), thing(1, 3)], 1))
        self.assertEqual(two.found((1,)), ([thing(1, 2)], 1))

    def test_two_buckets_of_one_share_nothing(self):
        buckets = Buckets(count=3, most=2)
        buckets.put(thing(0, 1))
        self.assertEqual(sum(len(pages) for pages in buckets.pages()), 1)


if __name__ == "__main__":
    unittest.main()
