"""[88]: how many texts fit, and their numbers."""

import unittest
from random import Random

from everrow.errors import InvalidNumber, InvalidPattern, InvalidText
from everrow.fitting import fit_at, fit_number, how_many_both, how_many_fit, how_many_part
from tests.cases import Case
from tests.makers import NO_NUMBERS, NO_TEXTS
from tests.test_patterns import GAP, LETTERS, NO_PATTERNS, all_texts, expression, random_pattern

SIGNS = "\n " + LETTERS


class CountTest(Case):

    @classmethod
    def setUpClass(cls):
        cls.texts = all_texts(3, SIGNS)

    def fitting(self, pattern, length):
        """All texts of a length that fit, in order."""
        made = expression(pattern)
        return [text for text in self.texts if len(text) == length and made.fullmatch(text)]

    def patterns(self):
        chance = Random(1)
        found = [random_pattern(chance, 3) for _ in range(16)]
        return found + [["a", GAP, "b"], ["a", GAP, ("set", LETTERS)], [("set", "az"), GAP, " "], ["abc"], [" "],
                        [("set", "ab"), ("set", "bc")]]

    def test_one(self):
        for pattern in self.patterns():
            for length in range(4):
                rows = self.fitting(pattern, length)
                self.assertEqual(how_many_fit(pattern, length), len(rows))
                self.assertEqual([fit_at(pattern, length, number) for number in range(len(rows))], rows)
                for number, text in enumerate(rows):
                    self.assertEqual(fit_number(pattern, text), number)
                self.refuse_each(InvalidNumber, [len(rows)], lambda value: fit_at(pattern, length, value))
            for text in Random(2).sample(self.texts, 200):
                if not expression(pattern).fullmatch(text):
                    self.assertIsNone(fit_number(pattern, text))

    def test_two(self):
        patterns = self.patterns()
        sets = {(at, length): set(self.fitting(pattern, length))
                for at, pattern in enumerate(patterns) for length in range(4)}
        for at, one in enumerate(patterns):
            for place, other in enumerate(patterns):
                for length in range(4):
                    first, second = sets[at, length], sets[place, length]
                    self.assertEqual(how_many_both(one, other, length), len(first & second))
                    self.assertEqual(how_many_part(one, other, length), len(first ^ second))

    def test_longer_texts(self):
        for length in range(3, 9):
            # An "a", any signs but line ends, a "b".
            self.assertEqual(how_many_fit(["a", GAP, "b"], length), 27 ** (length - 2))
            self.assertEqual(how_many_fit([("set", "ab")] * 3 + ["c"], length), 8 if length == 4 else 0)
            # Without what ends in "bb", of what ends in "b".
            both = how_many_both(["a", GAP, "b"], ["a", GAP, "bb"], length)
            self.assertEqual(both, 27 ** (length - 3))
            self.assertEqual(how_many_part(["a", GAP, "b"], ["a", GAP, "bb"], length), 26 * 27 ** (length - 3))

    def test_length_two_hundred(self):
        self.assertEqual(how_many_fit(["a", GAP, "b"], 200), 27 ** 198)
        self.assertEqual(fit_at(["a", GAP, "b"], 200, 0), "a" + " " * 198 + "b")
        self.assertEqual(fit_at(["a", GAP, "b"], 200, 27 ** 198 - 1), "a" + "z" * 198 + "b")
        self.refuse_each(InvalidNumber, [27 ** 198], lambda value: fit_at(["a", GAP, "b"], 200, value))
        self.assertEqual(fit_number(["a", GAP, "b"], "a" + " " * 197 + "ab"), 1)
        pattern = ["ab", GAP, ("set", "bcd"), "a", GAP, "aba"]
        many = how_many_fit(pattern, 200)
        for number in (0, 1, many // 3, many - 1):
            text = fit_at(pattern, 200, number)
            self.assertTrue(expression(pattern).fullmatch(text))
            self.assertEqual((len(text), fit_number(pattern, text)), (200, number))
        other = ["a", GAP, "c", GAP, "ab", ("set", "ab")]
        both = how_many_both(pattern, other, 200)
        self.assertEqual(how_many_part(pattern, other, 200), many + how_many_fit(other, 200) - 2 * both)
        self.assertTrue(0 < both < many)

    def test_edges(self):
        self.assertEqual(how_many_fit(["a"], 0), 0)
        self.assertEqual(how_many_both(["a"], ["a"], 0), 0)
        self.assertEqual(how_many_part(["a"], ["b"], 0), 0)
        self.assertEqual(how_many_part(["a"], ["b"], 1), 2)
        self.assertEqual(how_many_fit(["abcdef"] * 6, 36), 1)
        self.assertEqual(fit_at(["abcdef"] * 6, 36, 0), "abcdef" * 6)
        self.assertEqual(how_many_fit([("set", LETTERS)] * 6, 6), 26 ** 6)
        self.assertEqual(fit_at([("set", LETTERS)] * 6, 6, 26 ** 5), "baaaaa")
        self.assertIsNone(fit_number(["a"], ""))
        self.assertEqual(fit_number(["a"], "a"), 0)
        self.assertIsNone(fit_number(["a", GAP, "b"], "a\nb"))

    def test_errors(self):
        self.refuse_each(InvalidPattern, NO_PATTERNS, lambda value: how_many_fit(value, None))
        self.refuse_each(InvalidPattern, NO_PATTERNS, lambda value: fit_at(value, None, None))
        self.refuse_each(InvalidPattern, NO_PATTERNS, lambda value: fit_number(value, None))
        lengths = NO_NUMBERS + [-1]
        self.refuse_each(InvalidNumber, lengths, lambda value: how_many_fit(["a"], value))
        self.refuse_each(InvalidNumber, lengths, lambda value: fit_at(["a"], value, None))
        for call in (how_many_both, how_many_part):
            self.refuse_each(InvalidPattern, NO_PATTERNS, lambda value: call(value, None, None))
            self.refuse_each(InvalidPattern, NO_PATTERNS, lambda value: call(["a"], value, None))
            self.refuse_each(InvalidNumber, lengths, lambda value: call(["a"], ["b"], value))
        self.refuse_each(InvalidNumber, NO_NUMBERS + [-1, 2], lambda value: fit_at([("set", "ab")], 1, value))
        self.refuse_each(InvalidNumber, NO_NUMBERS + [-1, 0], lambda value: fit_at(["ab"], 1, value))
        self.refuse_each(InvalidText, NO_TEXTS, lambda value: fit_number(["a"], value))

    def test_lists_stay(self):
        one, other = ["a", GAP, "b"], [("set", "ab")]
        how_many_both(one, other, 3)
        fit_at(one, 3, 0)
        fit_number(one, "ab")
        self.assertEqual((one, other), (["a", GAP, "b"], [("set", "ab")]))


if __name__ == "__main__":
    unittest.main()
