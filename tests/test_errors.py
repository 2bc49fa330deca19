"""The interface's errors: what each stands under, and its attribute."""

import unittest

from whatindex import errors

ABOVE = {
    "NoShape": ValueError,
    "NoStore": ValueError,
    "NoRow": ValueError,
    "NoNumber": KeyError,
    "NoDesign": ValueError,
    "NoWay": LookupError,
    "NoProof": Exception,
    "TooMany": OverflowError,
    "NoTable": KeyError,
    "Taken": RuntimeError,
    "Made": RuntimeError,
    "NotMade": RuntimeError,
    "NoItem": IndexError,
    "BadItem": ValueError,
    "NoText": ValueError,
    "NoSaying": ValueError,
}
ATTRIBUTES = {
    "NoShape": ("name", "rows"),
    "NoStore": ("part", "key"),
    "NoNumber": ("number", 61),
    "NoProof": ("where", "paper"),
    "NoTable": ("name", "things"),
    "NoItem": ("number", 13),
    "BadItem": ("at", 2),
}
ANY_THING = ("NoNumber", "NoTable", "NoItem")


class ErrorTest(unittest.TestCase):
    def test_just_these_sixteen(self):
        found = [name for name, thing in vars(errors).items() if isinstance(thing, type)]
        self.assertEqual(sorted(found), sorted(ABOVE))
        self.assertEqual(len(found), 16)

    def test_straight_under_the_class_in_brackets(self):
        for name, above in ABOVE.items():
            self.assertEqual(getattr(errors, name).__bases__, (above,), name)

    def test_none_under_another_one(self):
        for name in ABOVE:
            for other in ABOVE:
                if name != other:
                    self.assertFalse(issubclass(getattr(errors, name), getattr(errors, other)))

    def test_the_attribute_is_set_when_the_object_is_created(self):
        for name, (attribute, worth) in ATTRIBUTES.items():
            error = getattr(errors, name)(worth)
            self.assertEqual(getattr(error, attribute), worth, name)

    def test_two_objects_have_their_own_attributes(self):
        for name, (attribute, worth) in ATTRIBUTES.items():
            first = getattr(errors, name)(worth)
            getattr(errors, name)("other")
            self.assertEqual(getattr(first, attribute), worth, name)

    def test_each_is_raised_and_caught(self):
        for name, above in ABOVE.items():
            told = [ATTRIBUTES[name][1]] if name in ATTRIBUTES else []
            with self.assertRaises(above) as caught:
                raise getattr(errors, name)(*told)
            self.assertEqual(type(caught.exception).__name__, name)

    def test_any_thing_as_an_attribute(self):
        for name in ANY_THING:
            attribute = ATTRIBUTES[name][0]
            for thing in (None, True, -1, 10 ** 59, "", "a b", [], [1, [2]], (1, ["a"])):
                error = getattr(errors, name)(thing)
                self.assertEqual(getattr(error, attribute), thing)
                self.assertIs(type(getattr(error, attribute)), type(thing))
                self.assertIsInstance(str(error), str)

    def test_what_is_handed_in_may_be_changed_later(self):
        for name in ANY_THING:
            inner = [1]
            thing = [inner, (inner,)]
            error = getattr(errors, name)(thing)
            inner.append(2)
            thing.append(3)
            self.assertEqual(getattr(error, ATTRIBUTES[name][0]), [[1], ([1],)])

    def test_what_was_told_may_be_changed_by_the_asker(self):
        for name in ANY_THING:
            thing = [[1]]
            told = getattr(getattr(errors, name)(thing), ATTRIBUTES[name][0])
            told[0].append(2)
            told.append(3)
            self.assertEqual(thing, [[1]])


if __name__ == "__main__":
    unittest.main()
