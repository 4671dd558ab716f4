"""[90] to [93]: orders on lines."""

import unittest
from itertools import product
from random import Random

from everrow.errors import InvalidItem, InvalidList, InvalidText
from everrow.orders import (
    alike_lines, commute_lines, idle_lines, played, settled, shows, source, undoes, unlike_line,
)
from tests.cases import Case
from tests.makers import NO_LISTS, NO_TEXTS

NO_LINES = NO_TEXTS + ["\n", "a\nb"]
NO_ORDERS = [
    None, True, 0, "front", (), [], ("front",), ("front", "abcd"), ("front", "A"), ("front", "a\n"), ("front", 1),
    ("front", ["a"]), ("front", "a", "b"), ["front", "a"], ("back", None), ("back", "abcd"), ("replace", "a"),
    ("replace", "", "a"), ("replace", "abcd", "a"), ("replace", "a", "abcd"), ("replace", "a", None),
    ("replace", "a", "b", "c"), ("replace", 1, "a"), ("first", 3), ("first", -1), ("first", True), ("first", "1"),
    ("last", None), ("last", 3), ("last", 1, 1), ("letters", None), ("letters", "ab"), ("letters", (("a", "b"),)),
    ("letters", [("a",)]), ("letters", [["a", "b"]]), ("letters", [("a", "b"), ("a", "c")]), ("letters", [("", "b")]),
    ("letters", [("ab", "b")]), ("letters", [("a", "")]), ("letters", [("a", "bc")]), ("letters", [("a", "\n")]),
    ("letters", [None]), ("letters", [("a", 1)]), ("words", [("a", "b")]), ("words", []), ("words", "a"), ("words", 1),
    (["front"], "a"), ("Front", "a"), (None, None), {},
]


def naive_order(order, line):
    """What an order makes, one sign at a time."""
    out, at = "", 0
    if order[0] == "replace":
        while at < len(line):
            found = line[at:at + len(order[1])] == order[1]
            out += order[2] if found else line[at]
            at += len(order[1]) if found else 1
        return out
    if order[0] == "letters":
        return "".join(dict(order[1]).get(sign, sign) for sign in line)
    rows = list(line)
    if order[0] in ("front", "back"):
        return order[1] + line if order[0] == "front" else line + order[1]
    for _ in range(order[1]):
        if rows:
            rows.pop(0 if order[0] == "first" else -1)
    return "".join(rows)


def naive_played(orders, line):
    for order in orders:
        line = naive_order(order, line)
    return line


def random_order(chance, letters="ab"):
    def word(least, most):
        return "".join(chance.choice(letters) for _ in range(chance.randint(least, most)))

    kind = chance.choice(["replace"] * 4 + ["front", "back", "first", "last", "letters"])
    if kind == "replace":
        return (kind, word(1, 3), word(0, 3))
    if kind in ("front", "back"):
        return (kind, word(0, 3))
    if kind in ("first", "last"):
        return (kind, chance.randint(0, 2))
    return (kind, [(one, chance.choice(letters)) for one in chance.sample(letters, chance.randint(0, len(letters)))])


def random_orders(chance, most=3, letters="ab"):
    """At most so many orders, the numbers of whose "last" are at most 2 together."""
    while True:
        orders = [random_order(chance, letters) for _ in range(chance.randint(0, most))]
        if lasts(orders) <= 2:
            return orders


def lines_of(most, signs):
    """All lines of at most so many signs, the least one first."""
    return ["".join(row) for size in range(most + 1) for row in product(sorted(signs), repeat=size)]


def lasts(orders):
    return sum(order[1] for order in orders if order[0] == "last")


# Orders here name "a" and "b" alone, so that the blank and "c" are the first ones of those that they do not name.
LINES = lines_of(5, " abc")
WIDE = lines_of(2, " abcdefghijklmnopqrstuvwxyz")


class PlayedTest(Case):
    """[90], [91]"""

    def test_all(self):
        chance = Random(1)
        for _ in range(400):
            orders = random_orders(chance, 8, "ab ")
            for line in chance.sample(LINES, 12) + ["", "a" * 9, "ab" * 9]:
                self.assertEqual(played(orders, line), naive_played(orders, line))

    def test_edges(self):
        self.assertEqual(played([], ""), "")
        self.assertEqual(played([], "a b"), "a b")
        self.assertEqual(played([("replace", "aa", "a")], "aaaaa"), "aaa")
        self.assertEqual(played([("replace", "aba", "")], "ababa"), "ba")
        self.assertEqual(played([("replace", "a", "aaa")], "aa"), "a" * 6)
        self.assertEqual(played([("replace", " ", "")], " a b "), "ab")
        self.assertEqual(played([("front", ""), ("back", "")], "a"), "a")
        self.assertEqual(played([("front", "abc"), ("back", " z")], ""), "abc z")
        for word in ("first", "last"):
            self.assertEqual([played([(word, n)], "") for n in range(3)], ["", "", ""])
            self.assertEqual(played([(word, 2)], "a"), "")
            self.assertEqual(played([(word, 0)], "abc"), "abc")
        self.assertEqual([played([("first", n)], "abc") for n in range(3)], ["abc", "bc", "c"])
        self.assertEqual([played([("last", n)], "abc") for n in range(3)], ["abc", "ab", "a"])
        self.assertEqual(played([("letters", [])], "ab"), "ab")
        self.assertEqual(played([("letters", [("a", "b"), ("b", "a"), (" ", "c")])], "ab ba"), "bacab")
        self.assertEqual(played([("letters", [("a", "b"), ("c", "b")])], "abc"), "bbb")
        self.assertEqual(played([("front", "abc")] * 8, "z"), "abc" * 8 + "z")

    def test_errors(self):
        calls = [
            lambda value: played(value, None), lambda value: unlike_line(value, None),
            lambda value: alike_lines(value, None), lambda value: commute_lines(value, None), idle_lines, settled,
            lambda value: undoes(value, None), lambda value: source(value, None), lambda value: shows(value, None),
            lambda value: unlike_line([], value), lambda value: alike_lines([], value),
            lambda value: commute_lines([], value), lambda value: undoes([], value),
        ]
        for call in calls:
            self.refuse_each(InvalidList, NO_LISTS + [(("first", 1),)], call)
            for value in NO_ORDERS:
                self.refuse(InvalidItem, value, call, [("first", 1), value, None])
        self.refuse_each(InvalidText, NO_LINES, lambda value: played([], value))
        self.refuse_each(InvalidText, NO_LINES, lambda value: source([], value))
        self.refuse_each(InvalidText, NO_LINES + ["", "abcde"], lambda value: shows([], value))

    def test_both_errors_of_an_argument_come_ahead_of_the_next_one(self):
        self.refuse(InvalidItem, None, unlike_line, [None], 0)
        self.refuse(InvalidItem, 7, undoes, [7], None)
        self.refuse(InvalidItem, 7, source, [7], None)

    def test_lists_stay(self):
        pairs = [("a", "b")]
        orders, other = [("letters", pairs), ("last", 1)], [("front", "a")]
        for call in (lambda: played(orders, "ab"), lambda: unlike_line(orders, other), lambda: settled(orders),
                     lambda: commute_lines(orders, other), lambda: undoes(orders, other), lambda: source(orders, "b"),
                     lambda: shows(orders, "b"), lambda: idle_lines(orders), lambda: alike_lines(orders, other)):
            call()
            self.assertEqual((orders, other), ([("letters", [("a", "b")]), ("last", 1)], [("front", "a")]))


class CompareTest(Case):
    """[92]"""

    def least(self, one, other):
        """The least line of all short ones that parts two lists, or None."""
        for line in LINES:
            if naive_played(one, line) != naive_played(other, line):
                return line
        return None

    def check(self, told, one, other):
        """Holds a least line against all short ones."""
        wanted = self.least(one, other)
        if wanted is not None or told is None:
            self.assertEqual(told, wanted)
        else:
            self.assertGreater(len(told), 5)
            self.assertNotEqual(naive_played(one, told), naive_played(other, told))
        for line in WIDE[:WIDE.index(told)] if told in WIDE else WIDE:
            self.assertEqual(naive_played(one, line), naive_played(other, line))

    def pairs(self):
        """Pairs of lists of orders, some of them alike."""
        chance, found = Random(2), []
        for _ in range(70):
            one, other = random_orders(chance), random_orders(chance)
            found.append((one, other))
            at = chance.randint(0, len(one))
            nothing = chance.choice([[("first", 0)], [("replace", "a", "a")], [("front", "b"), ("first", 1)],
                                     [("back", "ab"), ("last", 2)], [("letters", [("b", "b")])]])
            if lasts(one + nothing) <= 2:
                found.append((one, one[:at] + nothing + one[at:]))
        return found + [
            ([("replace", "ab", "")], [("replace", "ab", ""), ("replace", "ab", "")]),
            ([("replace", "aa", "a")], [("replace", "aaa", "aa")]),
            ([("replace", "aab", "")], [("replace", "ab", "a"), ("replace", "aa", "")]),
            ([("letters", [("a", "b"), ("b", "a")])], [("replace", "a", "b"), ("replace", "b", "a")]),
        ]

    def test_unlike(self):
        alikes = 0
        for one, other in self.pairs():
            told = unlike_line(one, other)
            self.check(told, one, other)
            self.assertIs(alike_lines(one, other), told is None)
            alikes += told is None
        self.assertGreater(alikes, 40)

    def test_signs_that_no_order_names(self):
        self.assertEqual(unlike_line([("first", 1)], [("last", 1)]), " a")
        self.assertEqual(unlike_line([("first", 1)], [("last", 1), ("letters", [(" ", " ")])]), " a")
        self.assertEqual(unlike_line([("first", 2)], [("first", 1), ("last", 1)]), "  a")
        self.assertEqual(unlike_line([("first", 1), ("last", 1)], [("last", 2)]), " a ")
        self.assertEqual(unlike_line([("replace", " ", "a"), ("first", 1)], [("replace", " ", "a"), ("last", 1)]), " b")
        every = [("letters", [(sign, "z") for sign in "abcdefghijklmnopqrstuvwxyz"])]
        self.assertEqual(unlike_line(every + [("front", "z")], every + [("back", "z")]), " ")
        self.assertEqual(unlike_line(every + [("replace", " ", "z")], [("replace", " ", "z")]), "a")
        self.assertEqual(unlike_line([("front", "z")], [("back", "z")]), " ")

    def test_long_lines(self):
        one = [("replace", "aaa", ""), ("replace", "aa", "")]
        self.assertEqual(unlike_line(one, [("replace", "aa", ""), ("replace", "aaa", "")]), "aaa")
        one = [("replace", "abc", "d"), ("replace", "ddd", "")]
        self.assertEqual(unlike_line(one, one[:1]), "ddd")
        one = [("letters", [("d", "e")]), ("replace", "abc", "d"), ("replace", "ddd", "f")]
        self.assertEqual(unlike_line(one, one[:2]), "abcabcabc")

    def check_whether(self, told, one, other):
        """Holds whether two lists are alike against the least line, and this against all short ones."""
        least = unlike_line(one, other)
        self.check(least, one, other)
        self.assertIs(told, least is None)

    def short_pairs(self):
        """Pairs of lists that can be done one behind the other."""
        return [(one, other) for one, other in self.pairs() if len(one + other) <= 4 and lasts(one + other) <= 2]

    def test_commute(self):
        found = set()
        for one, other in self.short_pairs():
            self.check_whether(commute_lines(one, other), one + other, other + one)
            found.add(commute_lines(one, other))
        self.assertEqual(found, {True, False})
        self.assertTrue(commute_lines([("front", "a")], [("back", "b")]))
        self.assertFalse(commute_lines([("front", "a")], [("front", "b")]))
        self.assertTrue(commute_lines([("replace", "a", "b")], [("replace", "c", "d")]))
        # The one that is done first can be left with too few signs, but so can the other one.
        self.assertTrue(commute_lines([("first", 1)], [("last", 1)]))
        self.assertFalse(commute_lines([("first", 1)], [("back", "a")]))
        self.assertTrue(commute_lines([], [("last", 2)]))

    def test_idle_and_settled(self):
        found = set()
        for orders in [row[:2] for pair in self.pairs() for row in pair]:
            self.check_whether(idle_lines(orders), orders, [])
            if lasts(orders) <= 1:
                self.check_whether(settled(orders), orders, orders + orders)
                found.add((idle_lines(orders), settled(orders)))
        self.assertEqual(found, {(True, True), (False, True), (False, False)})
        self.assertTrue(idle_lines([]))
        self.assertTrue(settled([]))
        self.assertTrue(settled([("replace", "a", "")]))
        self.assertFalse(settled([("replace", "ab", "")]))
        self.assertFalse(settled([("last", 1)]))
        self.assertTrue(idle_lines([("replace", "aba", "aba")]))

    def test_undoes(self):
        found = set()
        for one, other in self.short_pairs():
            self.check_whether(undoes(one, other), one + other, [])
            found.add(undoes(one, other))
        self.assertEqual(found, {True, False})
        self.assertTrue(undoes([("front", "ab"), ("back", "ba")], [("first", 2), ("last", 2)]))
        swap = [("letters", [("a", "b"), ("b", "a")])]
        self.assertTrue(undoes(swap, swap))
        self.assertFalse(undoes([("first", 1)], [("front", "a")]))
        self.assertFalse(undoes([("replace", "a", "b")], [("replace", "b", "a")]))
        self.assertTrue(undoes([], []))


class SourceTest(Case):
    """[93]"""

    def check(self, told, wanted, does):
        """Holds a least line against the first one of all short ones that does it."""
        if wanted is not None or told is None:
            self.assertEqual(told, wanted)
        else:
            self.assertGreater(len(told), 5)
            self.assertTrue(does(told))

    def test_source(self):
        chance, found = Random(4), []
        for _ in range(250):
            orders = random_orders(chance, 4)
            made = {}
            for line in LINES:
                made.setdefault(naive_played(orders, line), line)
            short = [line for line in made if len(line) <= 8]
            for line in chance.sample(short, min(4, len(short))) + chance.sample(LINES, 4):
                if "c" not in line:
                    told = source(orders, line)
                    self.check(told, made.get(line), lambda value: naive_played(orders, value) == line)
                    found.append(told is None)
        self.assertTrue(100 < sum(found) < len(found) - 100)

    def test_source_edges(self):
        self.assertEqual(source([], ""), "")
        self.assertEqual(source([], "abcdefab"), "abcdefab")
        self.assertIsNone(source([("front", "a")], "b"))
        self.assertEqual(source([("front", "ab")], "abc"), "c")
        self.assertEqual(source([("first", 2)], "a"), "  a")
        self.assertEqual(source([("first", 2)], ""), "")
        self.assertEqual(source([("last", 2)], "b"), "b  ")
        self.assertEqual(source([("replace", " ", "b"), ("first", 1)], "b"), "  ")
        self.assertEqual(source([("replace", " ", ""), ("first", 1)], "b"), "ab")
        self.assertIsNone(source([("replace", "a", "")], "a"))
        # It takes twice as many signs, and more, to get this.
        self.assertEqual(source([("replace", "ab", "")], "ab" * 2), "aabb" * 2)
        self.assertEqual(source([("replace", "aab", "")], "aabaab"), "aaaabbaaaabb")
        self.assertEqual(source([("letters", [("a", "c"), ("b", "c")])], "cccccccc"), "aaaaaaaa")

    def test_shows(self):
        chance, found = Random(5), []
        for _ in range(250):
            orders = random_orders(chance, 4)
            made = [(line, naive_played(orders, line)) for line in LINES]
            for _ in range(4):
                word = "".join(chance.choice("ab ") for _ in range(chance.randint(1, 4)))
                if " " in word and any(" " in str(order) for order in orders):
                    continue
                told = shows(orders, word)
                wanted = next((line for line, row in made if word in row), None)
                self.check(told, wanted, lambda value: word in naive_played(orders, value))
                found.append(told is None)
        self.assertTrue(50 < sum(found) < len(found) - 50)

    def test_shows_edges(self):
        self.assertEqual(shows([], "abcd"), "abcd")
        self.assertEqual(shows([("front", "xab"), ("back", "cd")], "abcd"), "")
        self.assertEqual(shows([("back", "cd")], "abcd"), "ab")
        self.assertEqual(shows([("last", 2)], "ab"), "ab  ")
        self.assertIsNone(shows([("replace", "a", "b")], "a"))
        self.assertEqual(shows([("replace", "ab", "")], "ab"), "aabb")
        self.assertEqual(shows([("replace", "aa", "b")], "bbbb"), "bbbb")
        self.assertEqual(shows([("letters", [("b", "c")]), ("replace", "aa", "b")], "bbbb"), "aaaaaaaa")
        self.assertIsNone(shows([("letters", [("b", "c")]), ("replace", "aa", "b")], "aa"))
        self.assertEqual(shows([("replace", "ab", "b")], "ab"), "aab")
        # The word is half of a replacement.
        self.assertEqual(shows([("replace", "c", "xab")], "ab"), "c")
        self.assertEqual(shows([("replace", "c", "xab")], "abxa"), "cc")


if __name__ == "__main__":
    unittest.main()
