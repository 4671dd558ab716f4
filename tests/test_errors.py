"""[5]: the errors and their fields."""

import unittest

from everrow import errors

VALUED = [
    "InvalidList", "InvalidItem", "InvalidHistory", "InvalidState", "InvalidNumber", "InvalidText", "InvalidTree",
    "InvalidLine", "InvalidMark", "InvalidChange", "InvalidKeys", "InvalidPattern", "InvalidRules", "InvalidLayout",
    "InvalidTable", "UnknownDeed", "UnknownSign",
]
NAMED = ["InvalidName", "TakenName", "UnknownName"]
PLAIN = ["NothingToUndo"]


class ErrorsTest(unittest.TestCase):

    def test_root(self):
        self.assertEqual(errors.RowError.__bases__, (ValueError,))
        self.assertIsInstance(errors.RowError(), ValueError)

    def test_each_is_derived_directly(self):
        for word in VALUED + NAMED + PLAIN:
            with self.subTest(word):
                self.assertEqual(getattr(errors, word).__bases__, (errors.RowError,))

    def test_fields(self):
        worths = [None, True, 0, "x", [], [1], (1, "ann"), {"a": []}, errors.RowError]
        for field, words in (("value", VALUED), ("name", NAMED)):
            for word in words:
                with self.subTest(word):
                    made = getattr(errors, word)
                    for worth in worths:
                        self.assertIs(getattr(made(worth), field), worth)
                        self.assertIs(getattr(made(**{field: worth}), field), worth)
                    self.assertIsNone(getattr(made(), field))

    def test_fields_are_of_their_object(self):
        first, second = errors.InvalidList([1]), errors.InvalidList([2])
        self.assertEqual((first.value, second.value), ([1], [2]))

    def test_wrong_fields(self):
        for word in VALUED:
            with self.assertRaises(TypeError):
                getattr(errors, word)(name=1)
        for word in NAMED:
            with self.assertRaises(TypeError):
                getattr(errors, word)(value=1)

    def test_without_fields(self):
        for word in ["RowError"] + PLAIN:
            made = getattr(errors, word)()
            self.assertFalse(hasattr(made, "value") or hasattr(made, "name"))

    def test_caught_as_root(self):
        for word in VALUED + NAMED:
            with self.assertRaises(errors.RowError):
                raise getattr(errors, word)("x")


if __name__ == "__main__":
    unittest.main()
