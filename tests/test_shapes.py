"""Point 5: shapes."""

import inspect
import unittest

from tests.things import SIXTY_FIGURES, odd_things
from whatindex.errors import NoShape
from whatindex.shapes import Shape

NAMES = ("rows", "entries", "fan", "buckets", "bits")
FIRST = {"rows": 4, "entries": 4, "fan": 3, "buckets": 4, "bits": 16}
BOUNDS = {"rows": (2, 8), "entries": (2, 8), "fan": (2, 8), "buckets": (1, 8), "bits": (2, 64)}


def told(shape):
    return (shape.rows, shape.entries, shape.fan, shape.buckets, shape.bits)


class ShapeTest(unittest.TestCase):
    def refused(self, **numbers):
        with self.assertRaises(NoShape) as caught:
            Shape(**numbers)
        return caught.exception.name

    def test_the_first_values(self):
        self.assertEqual(told(Shape()), (4, 4, 3, 4, 16))

    def test_each_goes_to_its_own_place(self):
        shape = Shape(rows=2, entries=5, fan=6, buckets=7, bits=33)
        self.assertEqual(told(shape), (2, 5, 6, 7, 33))

    def test_each_one_alone_leaves_the_others(self):
        for name in NAMES:
            least, greatest = BOUNDS[name]
            for number in range(least, greatest + 1):
                numbers = dict(FIRST)
                numbers[name] = number
                shape = Shape(**{name: number})
                self.assertEqual(told(shape), tuple(numbers[each] for each in NAMES))

    def test_just_beyond_either_bound(self):
        for name in NAMES:
            least, greatest = BOUNDS[name]
            for number in (least - 1, greatest + 1, -least, 0, SIXTY_FIGURES, -SIXTY_FIGURES):
                self.assertEqual(self.refused(**{name: number}), name, number)

    def test_any_thing_that_is_no_whole_number(self):
        for name in NAMES:
            for thing in odd_things() + ["4", "four", [4], (4,), [[4]]]:
                self.assertEqual(self.refused(**{name: thing}), name, thing)

    def test_truths_are_refused_where_1_is_let(self):
        self.assertEqual(Shape(buckets=1).buckets, 1)
        self.assertEqual(self.refused(buckets=True), "buckets")

    def test_of_two_wrong_ones_the_first_is_told(self):
        for at, name in enumerate(NAMES):
            for other in NAMES[at + 1:]:
                self.assertEqual(self.refused(**{name: 0, other: 0}), name)
                # The order of the words in the call does not count.
                self.assertEqual(self.refused(**{other: None, name: 99}), name)
        self.assertEqual(self.refused(rows=0, entries=0, fan=0, buckets=0, bits=0), "rows")

    def test_only_by_their_names(self):
        with self.assertRaises(TypeError):
            Shape(4)

    def test_the_parameters_are_as_listed(self):
        words = "(*, rows=4, entries=4, fan=3, buckets=4, bits=16)"
        self.assertEqual(str(inspect.signature(Shape)), words)

    def test_a_shape_never_changes(self):
        shape = Shape()
        for name in NAMES:
            with self.assertRaises(AttributeError):
                setattr(shape, name, 5)
        self.assertEqual(told(shape), (4, 4, 3, 4, 16))
        self.assertEqual(shape, Shape())

    def test_what_is_refused_changes_nothing(self):
        self.refused(rows=[4])
        self.assertEqual(told(Shape()), (4, 4, 3, 4, 16))
        handed = [4]
        self.refused(bits=handed)
        self.assertEqual(handed, [4])

    def test_equal_shapes(self):
        self.assertTrue(Shape() == Shape(rows=4, entries=4, fan=3, buckets=4, bits=16))
        self.assertFalse(Shape() != Shape())
        self.assertTrue(Shape(bits=5) == Shape(bits=5))

    def test_unlike_shapes(self):
        for name in NAMES:
            other = Shape(**{name: 5})
            self.assertFalse(Shape() == other, name)
            self.assertTrue(Shape() != other, name)
        self.assertFalse(Shape(rows=5) == Shape(entries=5))

    def test_a_shape_beside_another_kind_of_thing(self):
        for thing in [(4, 4, 3, 4, 16), [4, 4, 3, 4, 16], "Shape(4, 4, 3, 4, 16)"] + odd_things():
            self.assertFalse(Shape() == thing, thing)
            self.assertFalse(thing == Shape(), thing)
            self.assertTrue(Shape() != thing, thing)

    def test_the_repr(self):
        self.assertEqual(repr(Shape()), "Shape(4, 4, 3, 4, 16)")
        shape = Shape(rows=2, entries=5, fan=6, buckets=7, bits=33)
        self.assertEqual(repr(shape), "Shape(2, 5, 6, 7, 33)")

    def test_the_methods_stand_in_the_class_itself(self):
        for name in ("__eq__", "__repr__", "__init__"):
            self.assertIn(name, vars(Shape))


if __name__ == "__main__":
    unittest.main()
