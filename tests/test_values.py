"""Point 4: values, forms, rows and the mark of some values."""

import copy
import inspect
import unittest

from tests.things import odd_things
from whatindex.values import is_form, is_row, is_value, mark


class ValueTest(unittest.TestCase):
    def test_numbers_within_the_bounds(self):
        for thing in (-999, -998, -1, 0, 1, 42, 998, 999):
            self.assertIs(is_value("number", thing), True, thing)

    def test_numbers_beyond_the_bounds(self):
        for thing in (-1000, 1000, -1001, 10 ** 59, -(10 ** 59)):
            self.assertIs(is_value("number", thing), False, thing)

    def test_truths_are_no_numbers(self):
        self.assertIs(is_value("number", True), False)
        self.assertIs(is_value("number", False), False)

    def test_words_of_one_to_eight_letters(self):
        for thing in ("a", "z", "m", "ab", "zz", "number", "word", "abcdefgh", "zzzzzzzz"):
            self.assertIs(is_value("word", thing), True, thing)

    def test_words_too_short_or_too_long(self):
        for thing in ("", "abcdefghi", "z" * 9, "a" * 2000):
            self.assertIs(is_value("word", thing), False, thing)

    def test_words_of_other_signs(self):
        # The backquote and the brace stand just beside a and z.
        for sign in "`{AZ@[ 09-_.,:=+~'\"":
            for thing in (sign, sign + "a", "a" + sign, "ab" + sign + "cd"):
                self.assertIs(is_value("word", thing), False, thing)

    def test_a_value_of_one_kind_is_none_of_the_other(self):
        for thing in ("1", "-1", "999", "a", "abcdefgh"):
            self.assertIs(is_value("number", thing), False, thing)
        for thing in (0, 1, -999, 999, True, False):
            self.assertIs(is_value("word", thing), False, thing)

    def test_any_other_thing_is_no_value(self):
        for kind in ("number", "word"):
            for thing in odd_things():
                self.assertIs(is_value(kind, thing), False, (kind, thing))

    def test_lists_and_tuples_of_values_are_no_values(self):
        for thing in ([0], (0,), [[0]], ((0,),), ["a"], ("a",), [["a"]], (("a",),)):
            self.assertIs(is_value("number", thing), False, thing)
            self.assertIs(is_value("word", thing), False, thing)


class FormTest(unittest.TestCase):
    def test_one_to_six_columns(self):
        columns = tuple((name, "number") for name in "abcdef")
        for many in range(1, 7):
            self.assertIs(is_form(columns[:many]), True, many)
        self.assertIs(is_form((("abcdefgh", "word"), ("a", "number"))), True)

    def test_no_and_seven_columns(self):
        self.assertIs(is_form(()), False)
        self.assertIs(is_form(tuple((name, "number") for name in "abcdefg")), False)

    def test_a_name_twice(self):
        self.assertIs(is_form((("a", "number"), ("a", "number"))), False)
        self.assertIs(is_form((("a", "number"), ("b", "word"), ("a", "word"))), False)
        self.assertIs(is_form(tuple((name, "word") for name in "abcdef"[:5] + "a")), False)

    def test_columns_with_a_thing_more_or_fewer(self):
        good = ("a", "number")
        for column in ((), ("b",), ("b", "word", "word"), ("b", "word", None)):
            self.assertIs(is_form((column,)), False, column)
            self.assertIs(is_form((good, column)), False, column)
            self.assertIs(is_form((column, good)), False, column)

    def test_names_that_are_none(self):
        for name in ["abcdefghi", "A", "a1", "a b", 1, ("a",), ["a"]] + odd_things():
            self.assertIs(is_form(((name, "number"),)), False, name)
            self.assertIs(is_form((("a", "word"), (name, "number"))), False, name)

    def test_kinds_that_are_none(self):
        wrong = ["numbers", "Number", "WORD", "wor", "number ", "a", 0, ("number",), ["word"]]
        for kind in wrong + odd_things():
            self.assertIs(is_form((("a", kind),)), False, kind)
            self.assertIs(is_form((("a", "word"), ("b", kind))), False, kind)

    def test_lists_in_the_place_of_tuples(self):
        self.assertIs(is_form([("a", "number")]), False)
        self.assertIs(is_form((["a", "number"],)), False)
        self.assertIs(is_form((("a", "number"), ["b", "word"])), False)
        self.assertIs(is_form([["a", "number"]]), False)

    def test_a_column_alone_is_no_form(self):
        self.assertIs(is_form(("a", "number")), False)
        # Texts of two signs can be taken apart like columns, but are none.
        self.assertIs(is_form(("ab", "cd")), False)

    def test_any_other_thing_is_no_form(self):
        for thing in odd_things():
            self.assertIs(is_form(thing), False, thing)
            self.assertIs(is_form((thing,)), False, thing)
            self.assertIs(is_form((("a", "number"), thing)), False, thing)


class RowTest(unittest.TestCase):
    FORM = (("a", "number"), ("b", "word"), ("c", "number"))

    def test_rows(self):
        for thing in ((0, "a", 0), (-999, "abcdefgh", 999), (1, "z", 1)):
            self.assertIs(is_row(self.FORM, thing), True, thing)
        self.assertIs(is_row((("a", "word"),), ("a",)), True)
        six = tuple((name, "number") for name in "abcdef")
        self.assertIs(is_row(six, (1, 1, 2, 2, 3, 3)), True)

    def test_a_thing_more_or_fewer(self):
        for thing in ((), (0,), (0, "a"), (0, "a", 0, 0), (0, "a", 0, "a"), (0, "a", 0, None)):
            self.assertIs(is_row(self.FORM, thing), False, thing)

    def test_values_of_the_other_kind(self):
        for thing in (("a", "a", 0), (0, 0, 0), (0, "a", "a"), ("a", 0, 0)):
            self.assertIs(is_row(self.FORM, thing), False, thing)

    def test_values_beyond_the_bounds(self):
        for thing in ((1000, "a", 0), (0, "abcdefghi", 0), (0, "a", -1000), (0, "", 0)):
            self.assertIs(is_row(self.FORM, thing), False, thing)

    def test_truths_are_no_numbers(self):
        self.assertIs(is_row(self.FORM, (True, "a", 0)), False)
        self.assertIs(is_row(self.FORM, (0, "a", False)), False)

    def test_a_list_is_no_row(self):
        self.assertIs(is_row(self.FORM, [0, "a", 0]), False)
        self.assertIs(is_row((("a", "number"),), [0]), False)

    def test_a_text_is_no_row_of_its_letters(self):
        self.assertIs(is_row((("a", "word"), ("b", "word")), "ab"), False)
        self.assertIs(is_row((("a", "word"),), "a"), False)

    def test_any_other_thing_in_any_place(self):
        for thing in odd_things():
            self.assertIs(is_row(self.FORM, thing), False, thing)
            self.assertIs(is_row(self.FORM, (thing, "a", 0)), False, thing)
            self.assertIs(is_row(self.FORM, (0, thing, 0)), False, thing)
            self.assertIs(is_row(self.FORM, (0, "a", thing)), False, thing)


class MarkTest(unittest.TestCase):
    def test_no_values(self):
        self.assertEqual(mark(()), 7)

    def test_numbers(self):
        # 7 times 31 is 217; to it comes the value and 1000.
        self.assertEqual(mark((0,)), 1217 - 1009)
        self.assertEqual(mark((1,)), 1218 - 1009)
        self.assertEqual(mark((999,)), 2216 - 2 * 1009)

    def test_numbers_below_0(self):
        self.assertEqual(mark((-1,)), 1216 - 1009)
        self.assertEqual(mark((-999,)), 218)
        self.assertEqual(mark((-500,)), 717)

    def test_1009_itself_becomes_0(self):
        self.assertEqual(mark((-209,)), 1008)
        self.assertEqual(mark((-208,)), 0)
        self.assertEqual(mark((-207,)), 1)
        self.assertEqual(mark((801,)), 0)

    def test_words_of_each_length(self):
        self.assertEqual(mark(("a",)), 217 + 1)
        self.assertEqual(mark(("z",)), 217 + 26)
        self.assertEqual(mark(("aa",)), 217 + 28)
        self.assertEqual(mark(("az",)), 217 + 27 + 26)
        self.assertEqual(mark(("ba",)), 217 + 2 * 27 + 1)
        self.assertEqual(mark(("zz",)), 217 + 26 * 27 + 26)
        # 217 + 1 * 729 + 2 * 27 + 3 is 1003.
        self.assertEqual(mark(("abc",)), 1003)
        # 217 + 19683 + 1458 + 81 + 4 is 21443, less 21 * 1009.
        self.assertEqual(mark(("abcd",)), 254)

    def test_long_words(self):
        # Words of n times z have the number 27 ** n - 1.
        for many in range(1, 9):
            self.assertEqual(mark(("z" * many,)), (216 + 27 ** many) % 1009, many)
        number = 0
        for place, letter in enumerate(reversed("abcdefgh")):
            number += (1 + "abcdefgh".index(letter)) * 27 ** place
        self.assertEqual(mark(("abcdefgh",)), (217 + number) % 1009)

    def test_several_values(self):
        # 208 * 31 + 1000 is 7448, less 7 * 1009.
        self.assertEqual(mark((0, 0)), 385)
        # 218 * 31 + 1000 is 7758, less 7 * 1009.
        self.assertEqual(mark(("a", 0)), 695)
        # 208 * 31 + 1 is 6449, less 6 * 1009.
        self.assertEqual(mark((0, "a")), 395)
        # 385 * 31 + 1 is 11936, less 11 * 1009.
        self.assertEqual(mark((0, 0, "a")), 837)

    def test_the_order_counts(self):
        self.assertNotEqual(mark((1, 2)), mark((2, 1)))
        self.assertNotEqual(mark(("ab", 3)), mark((3, "ab")))
        self.assertNotEqual(mark(("a", "b")), mark(("b", "a")))

    def test_asked_again_it_is_the_same(self):
        values = ("abc", -5, "z", 999)
        self.assertEqual(mark(values), mark(("abc", -5, "z", 999)))
        self.assertEqual(values, ("abc", -5, "z", 999))


class HandedInTest(unittest.TestCase):
    """Point 2: what is handed in, by place or by name, stays as it was."""

    def test_by_names(self):
        self.assertIs(is_value(kind="number", thing=5), True)
        self.assertIs(is_value(thing="a", kind="word"), True)
        self.assertIs(is_form(thing=(("a", "word"),)), True)
        self.assertIs(is_row(thing=(5,), form=(("a", "number"),)), True)
        self.assertEqual(mark(values=()), 7)

    def test_the_parameters_are_as_listed(self):
        listed = {is_value: "(kind, thing)", is_form: "(thing)", is_row: "(form, thing)", mark: "(values)"}
        for function, words in listed.items():
            self.assertEqual(str(inspect.signature(function)), words)

    def test_nothing_is_changed(self):
        things = odd_things()
        ahead = copy.deepcopy(things)
        for thing in things:
            is_value("number", thing)
            is_value("word", thing)
            is_form(thing)
            is_form((thing,))
            is_row((("a", "number"),), thing)
            is_row((("a", "number"),), (thing,))
        self.assertEqual(things, ahead)


if __name__ == "__main__":
    unittest.main()
