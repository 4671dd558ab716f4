"""[180] to [182]: terms that stay, and shorts."""

import re
import unittest
from itertools import combinations, product
from random import Random

from everrow.changes import Change, done
from everrow.errors import InvalidChange, InvalidItem, InvalidList, InvalidText
from everrow.words import keeping, meant, staying, terms, two_meanings, two_rows, typed
from tests.cases import Case
from tests.makers import NO_LISTS, NO_NUMBERS, NO_TEXTS
from tests.test_changes import NO_CHANGES, random_change, rows_of

SHORTS = [("a", "x"), ("ab", "xy"), ("b", "y"), ("ba", "yy")]
NO_SHORTS = [
    None, True, 0, "ab", [], (), ("a",), ("a", "x", "y"), ["a", "x"], ("", "x"), ("abcde", "x"), ("A", "x"),
    ("a b", "x"),
    ("a\n", "x"), ("a", ""), ("a", "xxxxxxx"), ("a", "X"), ("a", None), (None, "x"), (["a"], "x"), ("a", ["x"]), {},
]


def naive_terms(text):
    return [(found.start(), found.group()) for found in re.finditer("[a-z]+", text)]


def naive_staying(text, row):
    """Each term of the text, sought at each place of the row."""
    made = "".join(text[item] if isinstance(item, int) else item for item in row)
    return [(begin, place) for begin, term in naive_terms(text) for place, other in naive_terms(made)
            if term == other and row[place:place + len(term)] == list(range(begin, begin + len(term)))]


def longest_common(one, other):
    """The length of the longest row that two rows of terms have in common, by trying all of the one."""
    for many in range(min(len(one), len(other)), -1, -1):
        if set(combinations(one, many)) & set(combinations(other, many)):
            return many
    return None


class TermsTest(Case):
    """[180]"""

    def test_terms(self):
        for size in range(6):
            for signs in product("ab \n", repeat=size):
                self.assertEqual(terms("".join(signs)), naive_terms("".join(signs)))
        for text in ("", " ", "\n", "abc", " abc ", "az za\nq", "a" * 200, "a " * 100):
            self.assertEqual(terms(text), naive_terms(text))
        terms("a b").clear()
        self.assertEqual(terms("a b"), [(0, "a"), (2, "b")])

    def test_staying(self):
        for text in ("", "a", "ab", "a b", " a", "ab c", "a\nb"):
            for row in rows_of(len(text), 3, "a "):
                self.assertEqual(staying(text, Change(len(text), row)), naive_staying(text, row))
        chance = Random(1)
        found = 0
        for _ in range(500):
            text = "".join(chance.choice("ab  \n") for _ in range(chance.randint(0, 10)))
            change = random_change(chance, len(text), 1, "a \n")
            self.assertEqual(staying(text, change), naive_staying(text, change.row()))
            found += len(staying(text, change))
        self.assertGreater(found, 100)

    def test_a_term_that_stays_is_one_in_both_texts(self):
        self.assertEqual(staying("ab c", Change(4, [0, 1, 2, 3])), [(0, 0), (3, 3)])
        self.assertEqual(staying("ab c", Change(4, [0, 1, 3])), [])
        self.assertEqual(staying("ab c", Change(4, ["x", 0, 1, 2, 3])), [(3, 4)])
        self.assertEqual(staying("ab c", Change(4, ["x", " ", 0, 1, "\n", 3, " "])), [(0, 2), (3, 5)])
        self.assertEqual(staying("ab c", Change(4, [0, " ", 1, 2, 3])), [(3, 4)])
        # The same letters, written again, do not stay.
        self.assertEqual(staying("ab c", Change(4, [0, "b", 2, 3])), [(3, 3)])
        self.assertEqual(staying("", Change(0, ["a"])), [])
        self.assertEqual(staying(" ", Change(1, ["a", 0])), [])
        self.assertEqual(staying("ab", Change(2, [])), [])
        self.assertEqual(staying("a" * 200, Change(200, list(range(200)))), [(0, 0)])

    def check(self, text, other):
        change = keeping(text, other)
        self.assertEqual((change.size, done(change, text)), (len(text), other))
        wanted = longest_common([term for _, term in naive_terms(text)], [term for _, term in naive_terms(other)])
        self.assertEqual(len(naive_staying(text, change.row())), wanted)
        self.assertEqual(len(staying(text, change)), wanted)
        return wanted

    def test_keeping(self):
        chance, most = Random(2), 0
        for _ in range(400):
            text, other = ["".join(chance.choice(["a ", "b ", "ab", " ", "\n", "c\n"])
                                   for _ in range(chance.randint(0, 10)))
                           for _ in range(2)]
            most = max(most, self.check(text, other))
        self.assertGreater(most, 3)

    def test_no_change_keeps_more(self):
        for text, other in product(["", "a", "a b", "b a", "ab", "a\na", " "], repeat=2):
            most = max(len(naive_staying(text, row)) for row in rows_of(len(text), 3, "ab \n")
                       if done(Change(len(text), row), text) == other)
            self.assertEqual(len(staying(text, keeping(text, other))), most)

    def test_keeping_edges(self):
        self.assertEqual(keeping("", ""), Change(0, []))
        self.assertEqual(self.check("abc", "abc"), 1)
        self.assertEqual(self.check(" \n", "\n "), 0)
        self.assertEqual(self.check("abc", "ab c"), 0)
        # Sixty signs, of the fewest and the most terms.
        self.assertEqual(len(staying("a" * 60, keeping("a" * 60, "a" * 60))), 1)
        one, other = "a " * 30, "a b" * 20
        change = keeping(one, other)
        self.assertEqual(done(change, one), other)
        self.assertEqual(len(staying(one, change)), 1)
        self.assertEqual(len(staying(one, keeping(one, "a\n" * 30))), 30)
        self.assertEqual(len(staying("a b " * 15, keeping("a b " * 15, "b a " * 15))), 29)

    def test_errors(self):
        self.refuse_each(InvalidText, NO_TEXTS, terms)
        self.refuse_each(InvalidText, NO_TEXTS, lambda value: staying(value, None))
        self.refuse_each(InvalidChange, NO_CHANGES + [Change(1, []), Change(3, [])], lambda value: staying("ab", value))
        self.refuse_each(InvalidText, NO_TEXTS, lambda value: keeping(value, None))
        self.refuse_each(InvalidText, NO_TEXTS, lambda value: keeping("a", value))


def readings(shorts, text):
    """All rows that type a text."""
    found = [[()]]
    for end in range(1, len(text) + 1):
        found.append([row + (at,) for at, (short, _) in enumerate(shorts) if text[:end].endswith(short)
                      for row in found[end - len(short)]])
    return found[-1]


def least_doubles(shorts, most, letters="ab"):
    """The least texts, of at most so many letters, of two unlike rows, and of two that mean unlike texts."""
    rows = meanings = None
    for size in range(most + 1):
        for signs in product(letters, repeat=size):
            found = readings(shorts, "".join(signs))
            if rows is None and len(found) > 1:
                rows = "".join(signs)
            if meanings is None and len({"".join(shorts[at][1] for at in row) for row in found}) > 1:
                meanings = "".join(signs)
        if rows is not None and meanings is not None:
            break
    return rows, meanings


def random_shorts(chance):
    """Shorts, about half of them such that each means what its letters mean, so that all rows of a text agree."""
    words = sorted({"".join(chance.choice("ab") for _ in range(chance.randint(1, 4)))
                    for _ in range(chance.randint(1, 6))})
    chance.shuffle(words)
    if chance.random() < 0.5:
        letters = {"a": chance.choice(["x", "y", ""]), "b": chance.choice(["x", "y"])}
        return [(word, "".join(letters[sign] for sign in word) or "x") for word in words]
    return [(word, chance.choice(["x", "xx", "y", "xy", "\n", " "])) for word in words]


class ShortsTest(Case):
    """[181], [182]"""

    def test_rows(self):
        for row in [[], *[list(row) for size in (1, 2, 3) for row in product(range(4), repeat=size)]]:
            self.assertEqual(typed(SHORTS, row), "".join(SHORTS[at][0] for at in row))
            self.assertEqual(meant(SHORTS, row), "".join(SHORTS[at][1] for at in row))
        edges = [("abcd", "\n"), ("a", "xxxxxx"), ("b", " "), ("c", "d"), ("zzzz", "q\n q"), ("y", "y")]
        self.assertEqual(typed(edges, [0, 5, 4] * 9), "abcdyzzzz" * 9)
        self.assertEqual(meant(edges, [1, 0, 2]), "xxxxxx\n ")

    def check(self, shorts, most):
        wanted = least_doubles(shorts, most)
        for call, text in zip((two_rows, two_meanings), wanted):
            told = call(shorts)
            if text is None:
                self.assertTrue(told is None or len(told[0]) > most, (shorts, told))
            else:
                self.assertEqual(told[0], text, shorts)
            if told is not None:
                text, one, other = told
                self.assertEqual((typed(shorts, one), typed(shorts, other)), (text, text))
                self.assertNotEqual(one, other)
                if call is two_meanings:
                    self.assertNotEqual(meant(shorts, one), meant(shorts, other))
        return wanted

    def test_all(self):
        chance, kinds = Random(3), {}
        for _ in range(500):
            wanted = self.check(random_shorts(chance), 8)
            kind = tuple(text is None for text in wanted)
            kinds[kind] = kinds.get(kind, 0) + 1
        self.assertTrue(all(kinds.get(kind, 0) > 20 for kind in ((True, True), (False, True), (False, False))), kinds)

    def test_edges(self):
        self.assertEqual((two_rows([("a", "x")]), two_meanings([("a", "x")])), (None, None))
        self.assertEqual((two_rows([("abcd", "x"), ("abc", "x")]), two_meanings([("abcd", "x"), ("abc", "x")])),
                         (None, None))
        self.assertEqual(two_rows([("a", "x"), ("aa", "xx")])[0], "aa")
        self.assertIsNone(two_meanings([("a", "x"), ("aa", "xx")]))
        self.assertEqual(two_meanings([("a", "x"), ("aa", "x")])[0], "aa")
        # Ends that come back to themselves: no text has two rows.
        self.assertIsNone(two_rows([("a", "x"), ("ab", "y"), ("bb", "z")]))
        self.assertIsNone(two_rows([("a", "x"), ("ba", "y"), ("bb", "z")]))
        # The lead grows with each pair of signs, and whether it is made up for is told at the end alone.
        self.assertEqual(two_meanings([("ca", "x"), ("c", "x"), ("aa", "yy"), ("ab", "y"), ("b", "y")])[0], "caab")
        self.assertIsNone(two_meanings([("ca", "xy"), ("c", "x"), ("aa", "yy"), ("ab", "yy"), ("b", "y")]))
        self.assertEqual(self.check([("aab", "x"), ("a", "y"), ("ab", "z"), ("aaab", "x")], 8)[0], "aab")
        # The lead grows for ever, but the two never come to an end at once.
        for longs in (["x", "x", "x", "xx"], ["x", "x", "y", "z"], ["x", "x", "x", "x"]):
            self.assertIsNone(two_meanings(list(zip(["c", "ca", "ab", "ba"], longs))))

    def test_only_behind_a_longer_way_do_the_meanings_part(self):
        # What two rows mean agrees where their ends are first alike, and does not later on.
        for shorts, rows, meanings in (
            ([("b", "x"), ("aaaa", "x"), ("aaa", "x")], "a" * 7, "a" * 12),
            ([("abba", " "), ("babb", "\n"), ("b", "\n")], "babbabbabb", "babbabbabbabb"),
            ([("a", "x"), ("babb", "xxx"), ("ab", "x"), ("ba", "x")], "aba", "ababba"),
            ([("bab", "x"), ("ab", "x"), ("a", "x"), ("abba", "y")], "abab", "abbabab"),
            ([("bb", "yy"), ("a", "x"), ("baab", "yy"), ("bbb", "yyy")], "bbbbb", "bbbaabbb"),
        ):
            self.assertEqual(self.check(shorts, 13 if len(rows) > 6 else 9), (rows, meanings))

    def test_longest(self):
        shorts = [("aaaa", "x" * 6), ("aaab", "x"), ("abaa", "y"), ("baaa", "xy"), ("aab", "y" * 6), ("bbaa", "x")]
        for call in (two_rows, two_meanings):
            told = call(shorts)
            self.assertTrue(told is None or typed(shorts, told[1]) == typed(shorts, told[2]) == told[0])

    def test_errors(self):
        calls = [lambda value: typed(value, None), lambda value: meant(value, None), two_rows, two_meanings]
        for call in calls:
            self.refuse_each(InvalidList, NO_LISTS + [[], [None] * 7, tuple(SHORTS)], call)
            for value in NO_SHORTS + [("b", "x")]:
                self.refuse(InvalidItem, value, call, [("b", "z"), value, None])
        for call in (typed, meant):
            self.refuse_each(InvalidList, NO_LISTS, lambda value: call(SHORTS, value))
            self.refuse_each(InvalidItem, NO_NUMBERS + [-1, 4, "a"], lambda value: call(SHORTS, [0, 3, value, None]))

    def test_lists_stay(self):
        shorts, row = [("a", "x"), ("aa", "y")], [1, 0]
        for call in (two_rows, two_meanings):
            told = call(shorts)
            self.assertIsNot(told[1], told[2])
            told[1].clear()
            told[2].append(9)
            self.assertEqual(call(shorts)[0], "aa")
            self.assertEqual(sorted(call(shorts)[1:]), [[0, 0], [1]])
        self.assertEqual((typed(shorts, row), shorts, row), ("aaa", [("a", "x"), ("aa", "y")], [1, 0]))


if __name__ == "__main__":
    unittest.main()
