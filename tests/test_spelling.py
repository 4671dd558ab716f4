"""[190] to [192]: slips, books, and what they mend."""

import unittest
from functools import lru_cache
from itertools import combinations, product
from random import Random

from everrow.changes import Change, done
from everrow.errors import InvalidItem, InvalidList, InvalidNumber, InvalidText
from everrow.spelling import between_two, mended, mending, nearest, parting_string, slips
from tests.cases import Case
from tests.makers import NO_LISTS, NO_NAMES, NO_NUMBERS, NO_TEXTS
from tests.test_words import naive_terms

BOOK = ["cat", "cot", "dog"]
NO_STRINGS = NO_TEXTS + ["a b", " ", "\n", "abcdefghijk", "ab\n"]
NO_BOOKS = NO_LISTS + [[], ["a", "b", "c", "d", "e", "f", "g", "h", "i"], ("cat",), [None] * 9]


@lru_cache(maxsize=None)
def cut(one, other):
    """The least sum of the costs of all ways of cutting two strings into equally many parts, by the last parts."""
    if not one and not other:
        return 0
    ways = []
    if one:
        ways.append(cut(one[:-1], other) + 1)
    if other:
        ways.append(cut(one, other[:-1]) + 1)
    if one and other:
        ways.append(cut(one[:-1], other[:-1]) + (one[-1] != other[-1]))
    if len(one) > 1 and len(other) > 1 and one[-2:] == other[:-3:-1] and one[-1] != one[-2]:
        ways.append(cut(one[:-2], other[:-2]) + 1)
    return min(ways)


def naive_nearest(book, string):
    many = [cut(name, string) for name in book]
    return min(many), [name for name in book if cut(name, string) == min(many)]


def naive_mended(book, string, most):
    many, names = naive_nearest(book, string)
    return names[0] if many <= most else None


def strings(letters, most):
    """All strings, by length, those of one length in order."""
    for size in range(most + 1):
        for string in product(sorted(letters), repeat=size):
            yield "".join(string)


def random_book(chance, many, letters="abc", longest=5):
    found = set()
    while len(found) < many:
        found.add("".join(chance.choice(letters) for _ in range(chance.randint(1, longest))))
    return sorted(found)


class SlipsTest(Case):
    """[190]"""

    def test_all_short_strings(self):
        for one, other in product(strings("abc", 3), repeat=2):
            self.assertEqual(slips(one, other), cut(one, other))

    def test_random(self):
        chance = Random(1)
        for _ in range(1500):
            one, other = ["".join(chance.choice("abc") for _ in range(chance.randint(0, 10))) for _ in range(2)]
            if chance.random() < 0.5:
                other = list(one)
                for _ in range(chance.randint(0, 3)):
                    at = chance.randint(0, len(other))
                    other[at:at + chance.randint(0, 2)] = chance.choice([[], ["a"], ["b", "a"], other[at:at + 2][::-1]])
                other = "".join(other)[:10]
            self.assertEqual(slips(one, other), cut(one, other))
            self.assertEqual(slips(other, one), slips(one, other))

    def test_edges(self):
        self.assertEqual((slips("", ""), slips("", "abcdefghij"), slips("abcdefghij", "")), (0, 10, 10))
        self.assertEqual((slips("abcdefghij", "abcdefghij"), slips("a" * 10, "b" * 10)), (0, 10))
        self.assertEqual((slips("ab", "ba"), slips("aab", "aba"), slips("abab", "baba"), slips("abcd", "badc")),
                         (1, 1, 2, 2))
        # What was turned round is not cut once more.
        self.assertEqual((slips("ca", "abc"), slips("ab", "bca"), slips("aa", "aa")), (3, 3, 0))

    def test_nearest(self):
        chance = Random(2)
        for _ in range(600):
            book = random_book(chance, chance.randint(1, 8), longest=8)
            string = "".join(chance.choice("abcd") for _ in range(chance.randint(0, 10)))
            self.assertEqual(nearest(book, string), naive_nearest(book, string))
            for most in range(4):
                self.assertEqual(mended(book, string, most), naive_mended(book, string, most))

    def test_books_of_one_and_eight(self):
        self.assertEqual(nearest(["a"], ""), (1, ["a"]))
        self.assertEqual((mended(["a"], "", 0), mended(["a"], "", 1)), (None, "a"))
        eight = ["a", "b", "c", "d", "e", "f", "g", "h"]
        self.assertEqual(nearest(eight, "ij"), (2, eight))
        self.assertEqual((mended(eight, "ij", 1), mended(eight, "ij", 2), mended(eight, "h", 0)), (None, "a", "h"))
        self.assertEqual(nearest(["abcdefgh"], "abcdefghij"), (2, ["abcdefgh"]))
        self.assertEqual((mended(BOOK, "dag", 0), mended(BOOK, "dag", 3), mended(BOOK, "xxxx", 3)), (None, "dog", None))

    def test_errors(self):
        self.refuse_each(InvalidText, NO_STRINGS, lambda value: slips(value, None))
        self.refuse_each(InvalidText, NO_STRINGS, lambda value: slips("", value))
        calls = [lambda book: nearest(book, None), lambda book: mended(book, None, None),
                 lambda book: mending(book, None, None), lambda book: parting_string(book, None, None),
                 lambda book: parting_string(BOOK, book, None), lambda book: between_two(book, None)]
        for call in calls:
            self.refuse_each(InvalidList, NO_BOOKS, call)
            for value in NO_NAMES + ["b", "a", "an"]:
                self.refuse(InvalidItem, value, call, ["b", value, None])
        self.refuse_each(InvalidText, NO_STRINGS, lambda value: nearest(BOOK, value))
        self.refuse_each(InvalidText, NO_STRINGS, lambda value: mended(BOOK, value, None))
        self.refuse_each(InvalidText, NO_TEXTS, lambda value: mending(BOOK, value, None))
        for call in (lambda value: mended(BOOK, "cat", value), lambda value: mending(BOOK, "cat", value),
                     lambda value: parting_string(BOOK, BOOK, value), lambda value: between_two(BOOK, value)):
            self.refuse_each(InvalidNumber, NO_NUMBERS + [-1, 4], call)

    def test_lists_stay(self):
        book = list(BOOK)
        nearest(book, "cet")[1].clear()
        self.assertEqual((nearest(book, "cet"), book), ((1, ["cat", "cot"]), BOOK))
        names = nearest(book, "cet")[1]
        book.clear()
        self.assertEqual(names, ["cat", "cot"])


class MendingTest(Case):
    """[191]"""

    def naive(self, book, text, most):
        row, at = [], 0
        for begin, term in naive_terms(text):
            row += range(at, begin)
            name = naive_mended(book, term, most) if len(term) <= 10 else None
            name = term if name is None else name
            first = 0
            while first < min(len(term), len(name)) and term[first] == name[first]:
                first += 1
            last = 0
            while last < min(len(term), len(name)) - first and term[-1 - last] == name[-1 - last]:
                last += 1
            row += [*range(begin, begin + first), *name[first:len(name) - last],
                    *range(begin + len(term) - last, begin + len(term))]
            at = begin + len(term)
        return Change(len(text), row + list(range(at, len(text))))

    def test_all(self):
        chance = Random(3)
        for _ in range(400):
            book, most = random_book(chance, chance.randint(1, 4)), chance.randint(0, 3)
            words = ["".join(chance.choice("abc") for _ in range(chance.randint(1, 6)))
                     for _ in range(chance.randint(0, 4))]
            text = "".join(word + chance.choice([" ", "\n", "  "]) for word in words)[chance.randint(0, 1):]
            change = mending(book, text, most)
            self.assertEqual(change, self.naive(book, text, most))
            wanted = text
            for begin, term in reversed(naive_terms(text)):
                name = mended(book, term, most)
                wanted = wanted[:begin] + (term if name is None else name) + wanted[begin + len(term):]
            self.assertEqual(done(change, text), wanted)

    def test_edges(self):
        for text in ("", " \n ", "xyz", "cat\ndog"):
            self.assertEqual(mending(BOOK, text, 0), Change(len(text), list(range(len(text)))))
        # Terms of 10 letters are mended, and those of 11 are not.
        book = ["aaaaaaaa", "b"]
        self.assertEqual(done(mending(book, "a" * 10 + " " + "a" * 11, 3), "a" * 10 + " " + "a" * 11),
                         "a" * 8 + " " + "a" * 11)
        self.assertEqual(mending(book, "a" * 10, 3).row(), [0, 1, 2, 3, 4, 5, 6, 7])
        # The beginning comes first: of "aa" and "a" the first letter stays.
        self.assertEqual(mending(["a"], "aa", 1).row(), [0])
        self.assertEqual(mending(["aaa"], "aa", 1).row(), [0, 1, "a"])
        self.assertEqual(mending(["abc"], "axbc", 1).row(), [0, 2, 3])
        self.assertEqual(mending(["abc"], "ac", 1).row(), [0, "b", 1])
        self.assertEqual(mending(BOOK, "cta cat\ndgo", 1).row(), [0, "a", "t", 3, 4, 5, 6, 7, 8, "o", "g"])
        self.assertEqual(len(mending(["abcdefgh"], "abcde " * 33, 3).row()), 9 * 33)


class PartingTest(Case):
    """[192]"""

    def naive_parting(self, one, other, most):
        letters = set("".join(one + other)) | {chr(min(set(range(97, 123)) - set(map(ord, "".join(one + other)))))}
        for string in strings(letters, 7):
            if naive_mended(one, string, most) != naive_mended(other, string, most):
                return string
        return None

    def naive_between(self, book, most, longest):
        letters = set("".join(book)) | {chr(min(set(range(97, 123)) - set(map(ord, "".join(book)))))}
        for string in strings(letters, longest):
            if len([name for name in book if cut(name, string) <= most]) > 1:
                return string
        return None

    def test_parting(self):
        chance, sizes = Random(4), {}
        for _ in range(250):
            one = random_book(chance, chance.randint(1, 4), chance.choice(["ab", "abc", "bcd"]), 4)
            other = random_book(chance, chance.randint(1, 4), "ab", 4) if chance.random() < 0.4 else sorted(
                set(one[:3]) | set(random_book(chance, 1, "abc", 5)))
            for most in range(3):
                told = parting_string(one, other, most)
                if one == other:
                    self.assertIsNone(told)
                    continue
                self.assertEqual(told, self.naive_parting(one, other, most), (one, other, most))
                sizes[len(told)] = sizes.get(len(told), 0) + 1
        self.assertTrue(all(sizes.get(size, 0) > 10 for size in range(5)), sizes)

    def test_parting_edges(self):
        self.assertIsNone(parting_string(BOOK, list(BOOK), 2))
        self.assertEqual(parting_string(["a"], ["b"], 0), "a")
        self.assertEqual(parting_string(["b"], ["c"], 1), "")
        self.assertEqual(parting_string(["a"], ["a", "b"], 1), "b")
        self.assertEqual(parting_string(["b"], ["a", "b"], 2), "")
        self.assertEqual((parting_string(["bc"], ["bd"], 0), parting_string(["bc"], ["bd"], 1)), ("bc", "b"))
        self.assertEqual(parting_string(["bb"], ["bbb"], 2), "")
        self.assertEqual(parting_string(["bbbbb"], ["bbbb"], 2), "bb")
        self.assertEqual(self.naive_parting(["bbbbb"], ["bbbb"], 2), "bb")
        self.assertEqual(parting_string(["aaaaa", "zzzzz"], ["aaaaa", "zzzzy"], 2), "zzy")

    def test_a_letter_that_no_name_has(self):
        chance, found = Random(5), {}
        for letters, least in (("bd", "a"), ("ac", "b")):
            for _ in range(150):
                one, other = random_book(chance, 2, letters, 3), random_book(chance, 2, letters, 3)
                for most in (1, 2):
                    if one != other and set("".join(one + other)) == set(letters):
                        told = parting_string(one, other, most)
                        self.assertEqual(told, self.naive_parting(one, other, most))
                        found[least] = found.get(least, 0) + (least in told)
        self.assertTrue(min(found.values()) > 0, found)

    def test_between_two(self):
        chance, sizes = Random(6), {}
        for _ in range(250):
            book = random_book(chance, chance.randint(1, 4), chance.choice(["ab", "abc", "abcd"]), 4)
            for most in range(3):
                told = between_two(book, most)
                wanted = self.naive_between(book, most, 6 if len(set("".join(book))) < 3 else 5)
                self.assertEqual(told, wanted, (book, most))
                kind = None if told is None else len(told)
                sizes[kind] = sizes.get(kind, 0) + 1
        self.assertTrue(all(sizes.get(kind, 0) > 5 for kind in (None, 0, 1, 2, 3)), sizes)

    def test_if_there_is_none_all_near_ones_are_mended_to_their_names(self):
        chance, checked = Random(7), 0
        for _ in range(150):
            book = random_book(chance, chance.randint(2, 3), "abcde", 5)
            if between_two(book, 1) is None:
                checked += 1
                for name, string in product(book, strings("abce", 4)):
                    if cut(name, string) <= 1:
                        self.assertEqual(mended(book, string, 1), name)
        self.assertGreater(checked, 20)

    def test_between_edges(self):
        for most in range(3):
            self.assertIsNone(between_two(["abcde"], most))
            self.assertIsNone(between_two(["aaaaa", "bbbbb", "ccccc", "ddddd"], most))
        self.assertEqual((between_two(["a", "b"], 0), between_two(["a", "b"], 1)), (None, ""))
        self.assertEqual(between_two(["abcde", "abcdf", "edcba", "xyz"], 2), "abc")
        self.assertEqual(between_two(["aabb", "bbaa"], 2), "aa")
        self.assertEqual(between_two(["ab", "ba"], 1), "a")
        self.assertIsNone(between_two(["aabb", "bbaa"], 1))
        self.assertEqual(between_two(["abcde", "bacde"], 1), self.naive_between(["abcde", "bacde"], 1, 5))
        for one, other in combinations(["abcd", "abdc", "acbd", "dcba"], 2):
            self.assertEqual(between_two(sorted([one, other]), 2), self.naive_between([one, other], 2, 5))


if __name__ == "__main__":
    unittest.main()
