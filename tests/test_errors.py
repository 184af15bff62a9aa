"""The refusals: their classes, what they are made of, what they have."""

import unittest

from neartwins import errors
from tests.things import Odd

MADE_OF_TEXT = [
    "NoNumber", "NoOrder", "NoRow", "NoShares", "NoTable", "NoFade", "NoTwins", "NoMark", "NoDeed", "NoLine", "TooMany",
]
WITH_VALUES = {
    "NoMachine": ["part", "number"],
    "NoSheet": ["number"],
    "NoText": ["row"],
    "NoRoom": ["room"],
    "NoName": ["name"],
}
VALUES = [None, True, 0, -7, 10 ** 59, "marks", "", [], [1, [2]], (1, 2), {"a": 1}, object(), Odd(), int]


class Classes(unittest.TestCase):
    def test_the_common_class(self):
        self.assertEqual(errors.TwinError.__bases__, (ValueError,))

    def test_straight_under_the_common_class(self):
        for name in MADE_OF_TEXT + ["NoMachine", "NoSheet", "NoText"]:
            with self.subTest(name):
                self.assertEqual(getattr(errors, name).__bases__, (errors.TwinError,))

    def test_apart_from_the_common_class(self):
        self.assertEqual(errors.NoRoom.__bases__, (IndexError,))
        self.assertEqual(errors.NoName.__bases__, (KeyError,))
        self.assertEqual(errors.NoDivisor.__bases__, (ZeroDivisionError,))


class Values(unittest.TestCase):
    def test_by_places(self):
        for name, attributes in WITH_VALUES.items():
            for value in VALUES:
                handed = [value] + [object() for each in attributes[1:]]
                made = getattr(errors, name)(*handed)
                for attribute, each in zip(attributes, handed):
                    self.assertIs(getattr(made, attribute), each)

    def test_by_names(self):
        for name, attributes in WITH_VALUES.items():
            for value in VALUES:
                handed = {attribute: object() for attribute in attributes}
                handed[attributes[-1]] = value
                made = getattr(errors, name)(**handed)
                for attribute in attributes:
                    self.assertIs(getattr(made, attribute), handed[attribute])

    def test_too_few_and_too_many_values(self):
        for name, attributes in WITH_VALUES.items():
            for count in (len(attributes) - 1, len(attributes) + 1):
                with self.subTest(name, count=count), self.assertRaises(TypeError):
                    getattr(errors, name)(*range(count))

    def test_made_of_a_text(self):
        for name in MADE_OF_TEXT + ["NoDivisor", "TwinError"]:
            with self.subTest(name):
                made = getattr(errors, name)("some words")
                self.assertEqual(str(made), "some words")
                for value in VALUES:
                    self.assertIs(getattr(errors, name)(value).args[0], value)

    def test_raised_and_caught(self):
        for name, attributes in WITH_VALUES.items():
            kind = getattr(errors, name)
            with self.subTest(name), self.assertRaises(kind) as caught:
                raise kind(*attributes)
            for attribute in attributes:
                self.assertEqual(getattr(caught.exception, attribute), attribute)
        for name in MADE_OF_TEXT + ["NoDivisor"]:
            kind = getattr(errors, name)
            with self.subTest(name), self.assertRaises(kind):
                raise kind("some words")


if __name__ == "__main__":
    unittest.main()
