"""[74] to [78]: keys."""

import unittest
from itertools import product
from random import Random

from everrow.changes import Change, done
from everrow.errors import InvalidKeys, InvalidNumber, InvalidText
from everrow.keys import alike, commute, effect, idle, needless, often, outcome, pressed, unlike
from tests import typing_by_hand as naive
from tests.cases import Case
from tests.makers import NO_LISTS, NO_NUMBERS, NO_TEXTS

NO_KEYS = [
    None, True, 0, "left", (), [], ("left",), ("left", 0), ("left", 10), ("left", True), ("left", "1"), ("left", 1, 1),
    ["left", 1], ("rub", -1), ("cut", None), ("first", 1), ("last", None), ["first"], ("write",), ("write", ""),
    ("write", "abcdefg"), ("write", "A"), ("write", 1), ("write", ["a"]), ("Left", 1), (["left"], 1), ([],), ({},),
    (None,), ("up", 1), ("home",), {},
]
LEFT, RIGHT, RUB, CUT = ("left", 1), ("right", 1), ("rub", 1), ("cut", 1)
FIRST, LAST, WRITE = ("first",), ("last",), ("write", "x")
SINGLE = [LEFT, RIGHT, RUB, CUT, FIRST, LAST, WRITE, ("left", 2), ("cut", 2)]


class PressedTest(Case):
    """[74]"""

    def test_all(self):
        for seed, keys in enumerate(naive.many_keys(1, 400, 9, 12)):
            text = "".join(Random(seed).choice("abc\n ") for _ in range(seed % 12))
            for at in range(len(text) + 1):
                self.assertEqual(pressed(text, at, keys), naive.text_behind(text, at, keys))

    def test_edges(self):
        self.assertEqual(pressed("", 0, []), ("", 0))
        self.assertEqual(pressed("ab", 1, []), ("ab", 1))
        self.assertEqual(pressed("abcdefghij", 10, [("left", 9)]), ("abcdefghij", 1))
        self.assertEqual(pressed("abcdefghij", 9, [("rub", 9)]), ("j", 0))
        self.assertEqual(pressed("abcdefghij", 1, [("cut", 9)]), ("a", 1))
        for word in ("left", "right", "rub", "cut"):
            self.assertEqual(pressed("", 0, [(word, 1), (word, 9)]), ("", 0))
        self.assertEqual(pressed("ab", 1, [("write", "x")]), ("axb", 2))
        self.assertEqual(pressed("ab", 1, [("write", "\n cdef")]), ("a\n cdefb", 7))
        self.assertEqual(pressed("ab", 1, [("left", 9), ("cut", 9)]), ("", 0))
        self.assertEqual(pressed("ab", 1, [LAST, FIRST, ("write", "c"), LAST]), ("cab", 3))
        self.assertEqual(pressed("a", 1, [("write", "abcdef")] * 12), ("a" + "abcdef" * 12, 73))

    def test_effect(self):
        for seed, keys in enumerate(naive.many_keys(2, 200, 5, 12)):
            for size in range(seed % 7):
                for at in range(size + 1):
                    change, cursor = effect(size, at, keys)
                    row, wanted = naive.press(range(size), at, keys)
                    self.assertEqual((change, cursor), (Change(size, row), wanted))
                    text = "abcdefg"[:size]
                    self.assertEqual((done(change, text), cursor), pressed(text, at, keys))
        change, cursor = effect(200, 100, [("rub", 9), ("write", "abcdef")])
        self.assertEqual(change.row(), list(range(91)) + list("abcdef") + list(range(100, 200)))
        self.assertEqual(cursor, 97)
        self.assertEqual(effect(0, 0, []), (Change(0, []), 0))

    def test_what_was_typed_and_taken_out_is_gone(self):
        self.assertEqual(effect(2, 1, [WRITE, RUB]), (Change(2, [0, 1]), 1))
        # A sign that is taken out and written again is not kept.
        self.assertEqual(effect(2, 1, [RUB, ("write", "a")]), (Change(2, ["a", 1]), 1))

    def test_errors(self):
        for call in (pressed, outcome, lambda text, at, keys: often(text, at, keys, None)):
            self.refuse_each(InvalidText, NO_TEXTS, lambda value: call(value, None, None))
            self.refuse_each(InvalidNumber, NO_NUMBERS + [-1, 3], lambda value: call("ab", value, None))
            self.refuse_each(InvalidKeys, NO_LISTS + [[LEFT] * 13], lambda value: call("ab", 1, value))
            for value in NO_KEYS:
                keys = [LEFT, value, FIRST]
                self.refuse(InvalidKeys, keys, call, "ab", 2, keys)
        self.refuse_each(InvalidNumber, NO_NUMBERS + [-1, 201], lambda value: effect(value, None, None))
        self.refuse_each(InvalidNumber, NO_NUMBERS + [-1, 3], lambda value: effect(2, value, None))
        self.refuse_each(InvalidKeys, NO_LISTS + [[LEFT] * 13, [None]], lambda value: effect(2, 2, value))

    def test_lists_stay(self):
        keys = [LEFT, ("write", "a")]
        for call in (lambda: pressed("ab", 1, keys), lambda: outcome("ab", 1, keys), lambda: often("ab", 1, keys, 9),
                     lambda: effect(2, 1, keys), lambda: alike(keys, keys), lambda: needless(keys)):
            call()
            self.assertEqual(keys, [LEFT, ("write", "a")])
        needless([LEFT, FIRST]).append(1)
        self.assertEqual(needless([LEFT, FIRST]), [0])


class AlikeTest(Case):
    """[75], [76]"""

    def pairs(self):
        """Pairs of lists of keys, some of them alike."""
        short = [[], *[[key] for key in SINGLE], *[list(keys) for keys in product(SINGLE, repeat=2)]]
        chance = Random(6)
        found = [(chance.choice(short), chance.choice(short)) for _ in range(400)]
        for keys in naive.many_keys(3, 120, 3, 4):
            at = chance.randint(0, len(keys))
            found.append((keys, keys[:at] + chance.choice([[FIRST, LAST], [WRITE, RUB], [LEFT, RIGHT]]) + keys[at:]))
            found.append((keys + [("left", 9), FIRST], keys + [FIRST]))
        return found

    def test_all(self):
        alikes = 0
        for one, other in self.pairs():
            size = naive.least_unlike(one, other, naive.sum_of(one + other) + 3)
            self.assertIs(alike(one, other), size is None, (one, other))
            self.check_unlike(one, other, size)
            alikes += size is None
        self.assertGreater(alikes, 100)

    def check_unlike(self, one, other, size):
        told = unlike(one, other)
        self.assertEqual(told is None, size is None)
        if told is not None:
            text, at = told
            self.assertEqual(len(text), size)
            self.assertTrue(0 <= at <= size)
            self.assertNotEqual(naive.text_behind(text, at, one), naive.text_behind(text, at, other))

    def test_larger_sizes_show_no_more(self):
        for one, other in self.pairs()[::4]:
            most = naive.sum_of(one + other) + 3
            self.assertEqual(naive.least_unlike(one, other, most), naive.least_unlike(one, other, most + 6))

    def test_thirty(self):
        one = [("left", 9), ("right", 6)]
        self.assertEqual(naive.sum_of(one + one), 30)
        self.assertTrue(alike(one, one))
        self.assertIsNone(unlike(one, one))
        # Only a text of so many signs tells them apart.
        deep, deeper = [("right", 9), ("right", 6)], [("right", 9), ("right", 5), ("right", 1)]
        self.assertTrue(alike(deep, deeper))
        less = [("right", 9), ("right", 5)]
        self.assertEqual(unlike(deep, less)[0], "a" * 15)
        self.assertEqual(unlike([("cut", 9), ("cut", 6)], [("cut", 9), ("cut", 5)])[1], 0)
        self.assertEqual(len(unlike([("cut", 9), ("cut", 6)], [("cut", 9), ("cut", 5)])[0]), 15)

    def test_edges(self):
        self.assertTrue(alike([], []))
        self.assertTrue(alike([WRITE] * 12, [("write", "xxxxxx")] * 2))
        self.assertEqual(unlike([WRITE], []), ("", 0))
        self.assertFalse(alike([FIRST], [LAST]))
        self.assertEqual(len(unlike([FIRST], [LAST])[0]), 1)
        # The same signs, once kept and once written again: a text of another sign tells.
        self.assertFalse(alike([RUB, ("write", "a")], [LEFT, RIGHT]))
        text, at = unlike([("rub", 1), ("write", "a")], [("left", 1), ("right", 1)])
        self.assertNotEqual(pressed(text, at, [RUB, ("write", "a")]), pressed(text, at, [LEFT, RIGHT]))

    def test_commute(self):
        both = 0
        for one, other in product([[key] for key in SINGLE] + naive.many_keys(4, 12, 2, 3), repeat=2):
            wanted = naive.least_unlike(one + other, other + one, 2 * naive.sum_of(one + other) + 3) is None
            self.assertIs(commute(one, other), wanted, (one, other))
            both += wanted
        self.assertGreater(both, 20)
        self.assertTrue(commute([("rub", 9), ("rub", 6)], [("cut", 9), ("cut", 6)]))
        self.assertFalse(commute([("left", 9), ("left", 6)], [("right", 9), ("right", 6)]))
        self.assertTrue(commute([WRITE] * 12, [WRITE] * 12))
        self.assertTrue(commute([], [LEFT]))

    def test_idle(self):
        idles = 0
        for keys in [one for pair in self.pairs()[::3] for one in pair]:
            wanted = naive.least_unlike(keys, [], naive.sum_of(keys) + 3) is None
            self.assertIs(idle(keys), wanted)
            idles += wanted
        self.assertTrue(idle([]))
        self.assertTrue(idle([WRITE, LEFT, CUT]))
        self.assertFalse(idle([WRITE, FIRST, LAST, RUB]))
        self.assertGreater(idles, 5)

    def test_needless(self):
        found = 0
        for keys in [one for pair in self.pairs()[::3] for one in pair] + naive.many_keys(5, 60, 2, 6):
            wanted = [at for at in range(len(keys))
                      if naive.least_unlike(keys, keys[:at] + keys[at + 1:], 2 * naive.sum_of(keys) + 3) is None]
            self.assertEqual(needless(keys), wanted)
            found += len(wanted)
        self.assertGreater(found, 50)
        self.assertEqual(needless([]), [])
        self.assertEqual(needless([FIRST] * 12), list(range(12)))
        # Each one alone could go, but not both.
        self.assertEqual(needless([FIRST, FIRST]), [0, 1])
        self.assertEqual(needless([("rub", 9), FIRST]), [])
        self.assertEqual(needless([("left", 9), ("right", 9), ("left", 9), FIRST] + [LAST] * 8), list(range(12)))

    def test_errors(self):
        wrong = NO_LISTS + [[LEFT] * 13, [None], [LEFT, ("left", 10)], [("left", True)]]
        for call in (alike, unlike, commute):
            self.refuse_each(InvalidKeys, wrong, lambda value: call(value, None))
            self.refuse_each(InvalidKeys, wrong, lambda value: call([LEFT], value))
        for call in (idle, needless):
            self.refuse_each(InvalidKeys, wrong, call)


class OutcomeTest(Case):
    """[77], [78]"""

    def rows(self, text, at, keys, most):
        """The texts and cursors behind each number of pressings up to one."""
        found = [(text, at)]
        for _ in range(most):
            found.append(naive.text_behind(*found[-1], keys))
        return found

    def test_all(self):
        words = {"stands": 0, "grows": 0}
        for seed, keys in enumerate(naive.many_keys(7, 300, 3, 5)):
            chance = Random(seed)
            text = "".join(chance.choice("abc") for _ in range(seed % 11))
            at = chance.randint(0, len(text))
            rows = self.rows(text, at, keys, 60)
            told = outcome(text, at, keys)
            words[told[0]] += 1
            if told[0] == "stands":
                times = told[1]
                self.assertEqual(rows[times:], [told[2:]] * (61 - times))
                self.assertTrue(times == 0 or rows[times - 1] != rows[times])
            else:
                lengths = [len(row) for row, _ in rows]
                self.assertEqual([more - less for less, more in zip(lengths[30:], lengths[31:])], [told[1]] * 30)
                self.assertGreater(told[1], 0)
            for times, (row, cursor) in enumerate(rows):
                self.assertEqual(often(text, at, keys, times), (len(row), cursor))
        self.assertTrue(min(words.values()) > 50)

    def test_without_write_it_stands(self):
        chance = Random(9)
        for _ in range(200):
            keys = naive.random_keys(chance, chance.randint(0, 12), 9, ("left", "right", "rub", "cut", "first", "last"))
            text = "ab" * chance.choice([0, 1, 5, 100])
            at = chance.randint(0, len(text))
            word, times, left, cursor = outcome(text, at, keys)
            self.assertEqual((word, pressed(left, cursor, keys)), ("stands", (left, cursor)))
            self.assertEqual(often(text, at, keys, times), (len(left), cursor))

    def test_stands(self):
        self.assertEqual(outcome("ab", 1, []), ("stands", 0, "ab", 1))
        self.assertEqual(outcome("", 0, [LEFT, RUB]), ("stands", 0, "", 0))
        self.assertEqual(outcome("a" * 200, 200, [RUB]), ("stands", 200, "", 0))
        self.assertEqual(outcome("ab" * 100, 0, [RIGHT]), ("stands", 200, "ab" * 100, 200))
        self.assertEqual(outcome("abc", 0, [LAST, WRITE, FIRST, CUT]), ("stands", 3, "xxx", 0))
        # The length and the cursor stand from the beginning on, the text does not.
        self.assertEqual(outcome("abcde", 5, [("left", 2), WRITE, RIGHT, CUT]), ("stands", 2, "abcxx", 5))
        self.assertEqual(outcome("ab" * 100, 200, [LAST, ("write", "x"), FIRST, CUT])[:2], ("stands", 200))

    def test_grows(self):
        self.assertEqual(outcome("", 0, [WRITE]), ("grows", 1))
        self.assertEqual(outcome("ab", 0, [("write", "abcdef")] * 12), ("grows", 72))
        # As long as there is something to cut the text gets shorter by two, then it gets longer by one.
        keys = [WRITE, ("cut", 3)]
        self.assertEqual(outcome("a" * 30, 0, keys), ("grows", 1))
        lengths = [often("a" * 30, 0, keys, times)[0] for times in (0, 1, 9, 10, 11, 12)]
        self.assertEqual(lengths, [30, 28, 12, 10, 11, 12])

    def test_far(self):
        far = 10 ** 18
        self.assertEqual(often("ab", 1, [("write", "abc")], far), (2 + 3 * far, 1 + 3 * far))
        self.assertEqual(often("ab", 1, [("write", "abc"), FIRST], far), (2 + 3 * far, 0))
        self.assertEqual(often("ab", 1, [("write", "abc"), LAST], far), (2 + 3 * far, 2 + 3 * far))
        # The first pressing moves the cursor, the others do not, though the text gets longer with each one.
        self.assertEqual(often("abcdef", 1, [FIRST, ("write", "abc")], far), (6 + 3 * far, 3))
        self.assertEqual(often("abcdef", 5, [LAST, ("write", "abc"), LEFT], far), (6 + 3 * far, 5 + 3 * far))
        self.assertEqual(often("ab", 1, [("write", "abc"), FIRST, RIGHT], far), (2 + 3 * far, 1))
        self.assertEqual(often("a" * 200, 100, [("cut", 1)], far), (100, 100))
        self.assertEqual(often("a" * 200, 100, [("cut", 1)], 30), (170, 100))
        self.assertEqual(often("a" * 200, 0, [("right", 1), WRITE], far), (200 + far, 200 + far))
        self.assertEqual(often("a" * 200, 7, [WRITE], 0), (200, 7))
        self.assertEqual(often("", 0, [], 10 ** 30), (0, 0))
        self.assertEqual(often("a" * 200, 200, [("left", 2), ("write", "x")], 10 ** 18), (200 + far, 1))

    def test_the_pressings_ahead_are_all_counted(self):
        for keys in naive.many_keys(8, 60, 9, 12):
            for text, at in (("ab" * 20, 40), ("ab" * 20, 0), ("abc", 1)):
                rows = self.rows(text, at, keys, 50)
                more = often(text, at, keys, 10 ** 18)
                step = len(rows[50][0]) - len(rows[49][0])
                drift = rows[50][1] - rows[49][1]
                self.assertEqual(more, (len(rows[50][0]) + (10 ** 18 - 50) * step,
                                        rows[50][1] + (10 ** 18 - 50) * drift))

    def test_errors(self):
        values = NO_NUMBERS + [-1]
        self.refuse_each(InvalidNumber, values, lambda value: often("ab", 1, [LEFT], value))
        self.refuse_each(InvalidKeys, [[None]], lambda value: often("ab", 1, value, -1))


if __name__ == "__main__":
    unittest.main()
