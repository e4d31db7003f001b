"""Refusals: their classes, and the values that they have [2, interface]."""

import copy
import inspect
import unittest

from threetrees import errors
from threetrees.errors import NoArrows, NoDrawing, NoRows, NoText, Tied, TreesError

VALUES = {
    "NoDrawing": {"word": "place", "at": 4},
    "NoRows": {"word": "second", "at": 0},
    "NoText": {"at": 7},
    "Tied": {"pair": (3, 1)},
    "NoArrows": {"why": ("out", 3)},
}
OF_ONE_TEXT = ("NoLand", "NoPlace", "NoTie", "NoRing", "TooMany", "NoLine", "NothingDone")


def made(name):
    refusal = getattr(errors, name)
    if name in VALUES:
        return refusal(*VALUES[name].values())
    return refusal("a text")


class Refusals(unittest.TestCase):
    def test_the_base_is_a_value_error(self):
        self.assertEqual(TreesError.__bases__, (ValueError,))

    def test_each_stands_straight_under_the_base_and_under_no_other(self):
        for name in [*VALUES, *OF_ONE_TEXT]:
            with self.subTest(name):
                self.assertEqual(getattr(errors, name).__bases__, (TreesError,))

    def test_there_is_one_class_for_each_name(self):
        classes = {getattr(errors, name) for name in [*VALUES, *OF_ONE_TEXT]}
        self.assertEqual(len(classes), len(VALUES) + len(OF_ONE_TEXT))

    def test_each_is_raised_and_taken_as_a_value_error_and_by_its_own_name(self):
        for name in [*VALUES, *OF_ONE_TEXT]:
            for taken_as in (ValueError, TreesError, getattr(errors, name)):
                with self.subTest(name, taken_as=taken_as), self.assertRaises(taken_as):
                    raise made(name)

    def test_none_is_taken_by_the_name_of_another(self):
        for name in [*VALUES, *OF_ONE_TEXT]:
            for other in [*VALUES, *OF_ONE_TEXT]:
                with self.subTest(name, other=other):
                    self.assertEqual(isinstance(made(name), getattr(errors, other)), name == other)

    def test_each_has_its_values(self):
        for name, values in VALUES.items():
            for value, asked in values.items():
                with self.subTest(name, value=value):
                    self.assertEqual(getattr(made(name), value), asked)

    def test_the_values_are_made_with_under_their_names_and_in_their_order(self):
        for name, values in VALUES.items():
            with self.subTest(name):
                self.assertEqual(list(inspect.signature(getattr(errors, name)).parameters), list(values))

    def test_values_of_one_refusal_are_not_those_of_another(self):
        first, second = NoDrawing("count", 2), NoDrawing("outer", 0)
        self.assertEqual((first.word, first.at, second.word, second.at), ("count", 2, "outer", 0))
        self.assertEqual((NoText(1).at, NoText(10 ** 59).at), (1, 10 ** 59))
        self.assertEqual((NoRows("length", 14).word, NoRows("length", 14).at), ("length", 14))
        self.assertEqual((Tied((0, 4)).pair, Tied((4, 0)).pair), ((0, 4), (4, 0)))
        self.assertEqual(NoArrows(("tie", 0)).why, ("tie", 0))

    def test_a_copy_has_the_same_values(self):
        for name, values in VALUES.items():
            with self.subTest(name):
                twin = copy.copy(made(name))
                self.assertEqual({value: getattr(twin, value) for value in values}, values)


if __name__ == "__main__":
    unittest.main()
