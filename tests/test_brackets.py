"""[160] to [162]: brackets."""

import unittest
from itertools import product
from random import Random

from everrow.brackets import closes, closing, open_state, opened, outline_of, skeleton, unfair
from everrow.errors import InvalidHistory, InvalidItem, InvalidList, InvalidState, InvalidTable, InvalidText
from everrow.history import History, text_of, whole
from everrow.outlines import is_outline, shifted
from everrow.tables import turned
from tests import naive
from tests.cases import Case
from tests.makers import NO_HISTORIES, NO_LISTS, NO_TEXTS, chain, heap, no_states, plain, random_deeds
from tests.test_outlines import NO_OUTLINES, depth_rows, outline, random_outline

PAIR = [("a", "b")]
THREE = [("a", "b"), ("d", "c"), ("x", "y")]
NO_BRACKETS = [
    None, True, 0, "ab", [], (), ("a",), ("a", "b", "c"), ["a", "b"], ("a", ""), ("a", "bc"), ("ab", "c"), ("A", "b"),
    ("a", " "), ("a", "\n"), ("a", "1"), ("a", None), (1, "b"), ("a", ["b"]), ("a", "a"), {}, ("\u00e4", "b"),
]


def left(brackets, text):
    """What is left of the letters when pairs that stand side by side among them go, again and again, from the left."""
    row = [(at, sign) for at, sign in enumerate(text) if any(sign in pair for pair in brackets)]
    pairs = []
    at = 0
    while at + 1 < len(row):
        if (row[at][1], row[at + 1][1]) in brackets:
            pairs.append((row[at][0], row[at + 1][0]))
            row = row[:at] + row[at + 2:]
            at = 0
        else:
            at += 1
    return row, pairs


def does_close(brackets, text):
    return not left(brackets, text)[0]


def naive_unfair(deeds, brackets):
    texts = {deed[1]: deed[3] for deed in deeds if deed[0] == "put"}
    for deed in sorted(deeds, key=naive.name_of):
        if deed[0] == "put":
            if not does_close(brackets, deed[3]):
                return deed[1]
        else:
            for sign in deed[2]:
                for one, other in left(brackets, texts[sign[:2]])[1]:
                    if ((*sign[:2], one) in deed[2]) != ((*sign[:2], other) in deed[2]):
                        return deed[1]
    return None


class ClosesTest(Case):
    """[160]"""

    def test_all_short_texts(self):
        for brackets, signs in ((PAIR, "ab "), ([("b", "a")], "ab"), (THREE[:2], "abcd"), (THREE, "abcdxy")):
            for size in range(5 if len(signs) > 4 else 7):
                for text in product(signs, repeat=size):
                    self.assertIs(closes(brackets, "".join(text)), does_close(brackets, text))

    def test_long_texts(self):
        chance = Random(1)
        for _ in range(200):
            text = "".join(chance.choice("adx") for _ in range(chance.randint(0, 60)))
            twin = text[::-1].translate({ord("a"): "b", ord("d"): "c", ord("x"): "y"})
            self.assertIs(closes(THREE, text + "q\n z" + twin), True)
            self.assertIs(closes(THREE, text + twin + "a"), False)
            if len(set(text)) > 1:
                self.assertIs(closes(THREE, text + twin[::-1]), does_close(THREE, text + twin[::-1]))
        self.assertIs(closes(PAIR, "a" * 100 + "b" * 100), True)

    def test_edges(self):
        for brackets in (PAIR, THREE):
            for text in ("", "q", " \n", "ab", "aabb", "qawbe"):
                self.assertIs(closes(brackets, text), True)
            for text in ("a", "b", "ba", "abb", "aab"):
                self.assertIs(closes(brackets, text), False)
        self.assertEqual((closes(THREE, "adbc"), closes(THREE, "adcb"), closes(THREE, "cd")), (False, True, False))

    def test_errors(self):
        calls = [lambda value: closes(value, None), lambda value: open_state(plain(), value),
                 lambda value: closing(plain(), value, None), lambda value: unfair(plain(), value),
                 lambda value: opened(value, None)]
        for call in calls:
            self.refuse_each(InvalidList, NO_LISTS + [[], THREE + [("p", "q")], tuple(PAIR)], call)
            for value in NO_BRACKETS + [("a", "y"), ("y", "a"), ("x", "q"), ("q", "x"), ("x", "y")]:
                self.refuse(InvalidItem, value, call, [("x", "y"), value, None])
        self.refuse_each(InvalidText, NO_TEXTS, lambda value: closes(PAIR, value))


class StatesTest(Case):
    """[161]"""

    def check(self, deeds, brackets):
        given, shown = History(deeds), [(state, naive.text(deeds, state)) for state in naive.states(deeds)]
        bare = [state for state, text in shown if not does_close(brackets, text)]
        told = open_state(given, brackets)
        if bare:
            self.assertIn(told, naive.least(bare))
        else:
            self.assertIsNone(told)
        self.assertEqual(unfair(given, brackets), naive_unfair(deeds, brackets))
        if unfair(given, brackets) is None:
            self.assertIsNone(told)
        for state, _ in shown[::3]:
            closed = [other for other, text in shown if set(other) <= set(state) and does_close(brackets, text)]
            most = max(len(other) for other in closed)
            self.assertIn(closing(given, brackets, state), [other for other in closed if len(other) == most])
        return bare

    def test_all(self):
        kinds = {True: 0, False: 0}
        for seed in range(120):
            letters = ["ab", "abq", "abcd"][seed % 3]
            deeds = random_deeds(seed, seed % 7, drops=2 + seed % 3, letters=letters)
            kinds[bool(self.check(deeds, [PAIR, THREE[:2], THREE][seed // 3 % 3]))] += 1
        self.assertTrue(min(kinds.values()) > 5, kinds)

    def test_fair_ones(self):
        """Puts that close, and drops of whole pairs: no state is open."""
        chance = Random(2)
        texts = ["ab", "aabb", "qabq", "abab", "aqb", "acdb", "q", "cd"]
        for seed in range(60):
            deeds, signs, pairs = [], [], []
            for number in range(1, 8):
                if pairs and chance.random() < 0.4:
                    chosen = {sign for pair in chance.sample(pairs, min(2, len(pairs))) for sign in pair}
                    deeds.append(("drop", (number, "b"), sorted(chosen)))
                    continue
                text = chance.choice(texts)
                deeds.append(("put", (number, "a"), chance.choice([None] + signs), text))
                signs += [(number, "a", at) for at in range(len(text))]
                pairs += [[(number, "a", one), (number, "a", other)] for one, other in
                          left([("a", "b"), ("c", "d")], text)[1]]
                pairs += [[(number, "a", at)] for at, sign in enumerate(text) if sign == "q"]
            brackets = [("a", "b"), ("c", "d")]
            self.assertIsNone(unfair(History(deeds), brackets))
            self.assertEqual(self.check(deeds, brackets), [])

    def test_14_deeds(self):
        for seed in range(3):
            deeds = random_deeds(seed, 14, drops=3, letters="aabq")
            given = History(deeds)
            self.assertEqual(len(open_state(given, PAIR)), min(
                len(state) for state in naive.states(deeds) if not does_close(PAIR, text_of(given, state))))
            told = closing(given, PAIR, whole(given))
            most = max(len(state) for state in naive.states(deeds) if does_close(PAIR, text_of(given, state)))
            self.assertEqual((len(told), does_close(PAIR, text_of(given, told))), (most, True))
        # All 14 are needed.
        deeds = [("put", (1, "a"), None, "ab")] + [("put", (k, "a"), (k - 1, "a", 0), "ab") for k in range(2, 14)]
        given = History(deeds + [("drop", (14, "b"), [(13, "a", 0)])])
        self.assertEqual(open_state(given, PAIR), whole(given))
        self.assertEqual(closing(given, PAIR, whole(given)), whole(given)[:13])
        self.assertEqual(unfair(given, PAIR), (14, "b"))
        self.assertIsNone(open_state(History(heap(14, "ab")), PAIR))
        self.assertEqual(closing(History(chain(14, "a")), PAIR, whole(History(chain(14, "a")))), [])

    def test_unfair(self):
        put = ("put", (1, "a"), None, "acdbq")
        for signs, wanted in (([0, 3], None), ([1, 2], None), ([4], None), ([0, 1, 2, 3, 4], None), ([0], (2, "b")),
                              ([3, 4], (2, "b")), ([0, 1, 3], (2, "b")), ([0, 1], (2, "b"))):
            drop = ("drop", (2, "b"), [(1, "a", at) for at in signs])
            self.assertEqual(unfair(History([put, drop]), [("a", "b"), ("c", "d")]), wanted)
        self.assertIsNone(unfair(History([]), PAIR))
        # One sign of each of two puts does not go together.
        deeds = [("put", (1, "a"), None, "ab"), ("put", (2, "a"), None, "ab"),
                 ("drop", (3, "a"), [(1, "a", 0), (2, "a", 1)])]
        self.assertEqual(unfair(History(deeds), PAIR), (3, "a"))
        self.assertEqual(unfair(History(deeds[:2] + [("drop", (3, "a"), [(1, "a", 0), (1, "a", 1), (2, "a", 0)])]),
                                PAIR),
                         (3, "a"))
        self.assertEqual(unfair(History(deeds + [("put", (3, "Z".lower()), None, "b")]), PAIR), (3, "a"))
        # A put that does not close is named, though its drop would be, too.
        self.assertEqual(unfair(History([("put", (1, "a"), None, "a"), ("drop", (2, "a"), [(1, "a", 0)])]), PAIR),
                         (1, "a"))

    def test_errors(self):
        for call in (open_state, unfair, lambda history, brackets: closing(history, brackets, None)):
            self.refuse_each(InvalidHistory, NO_HISTORIES, lambda value: call(value, None))
        self.refuse_each(InvalidState, no_states(), lambda value: closing(plain(), PAIR, value))

    def test_lists_stay(self):
        state, brackets = [(1, "ann"), (2, "bob")], [("a", "b")]
        closing(plain(), brackets, state).clear()
        open_state(plain(), brackets)
        self.assertEqual((state, brackets), ([(1, "ann"), (2, "bob")], [("a", "b")]))


class OpenedTest(Case):
    """[162], `opened`"""

    def naive(self, brackets, table):
        """The least text of at most three signs, of the letters of both and two others."""
        used = {sign for pair in brackets for sign in pair} | {sign for sign, _ in table}
        signs = sorted(used | {"\n", " "})
        for size in range(4):
            for text in product(signs, repeat=size):
                text = "".join(text)
                if does_close(brackets, text) and not does_close(brackets, turned(table, text)):
                    return text
        return None

    def test_random(self):
        chance, sizes = Random(3), {}
        for _ in range(300):
            brackets = chance.choice([PAIR, THREE[:2]])
            signs = chance.sample("abcdq \n", chance.randint(1, 4))
            made = ["ab", "aabb", "a", "b", "q", "", "abab", "dc", "ba", "aab", "abb"]
            table = [(sign, chance.choice(made)) for sign in signs]
            told = opened(brackets, table)
            self.assertEqual(told, self.naive(brackets, table), (brackets, table))
            sizes[told and len(told)] = sizes.get(told and len(told), 0) + 1
        self.assertTrue(all(sizes.get(size, 0) > 20 for size in (None, 1, 2)), sizes)

    def test_edges(self):
        self.assertIsNone(opened(PAIR, [("q", "ab")]))
        self.assertEqual(opened(PAIR, [("\n", "a")]), "\n")
        self.assertEqual(opened(PAIR, [(" ", "a"), ("\n", "")]), " ")
        # A bracket becomes nothing.
        self.assertEqual(opened(PAIR, [("a", "")]), "ab")
        self.assertIsNone(opened(PAIR, [("a", ""), ("b", "")]))
        self.assertIsNone(opened(PAIR, [("a", "aab"), ("b", "b")]))
        self.assertEqual(opened(PAIR, [("a", "b"), ("b", "a")]), "ab")
        self.assertIsNone(opened(THREE, [("a", "d"), ("b", "c"), ("c", "y"), ("d", "x")]))
        self.assertEqual(opened(THREE, [("a", "d"), ("b", "c"), ("c", "y"), ("d", "q")]), "dc")
        self.assertEqual(opened([("b", "a")], [("a", "b")]), "ba")
        self.assertEqual(opened(THREE, [("x", "")]), "xy")

    def test_errors(self):
        wrong = NO_LISTS + [[], [("a", "")] * 2, [("a", "abcde")], [("a", "b"), None]]
        self.refuse_each(InvalidTable, wrong, lambda value: opened(PAIR, value))


class SkeletonTest(Case):
    """[162], `skeleton` and `outline_of`"""

    def test_all(self):
        for many in range(1, 7):
            found = {}
            for row in depth_rows(many):
                words = ["w", "", "a b", "b", "a", "c"][:many]
                told = skeleton(outline(row, words))
                self.assertEqual(told, self.naive(row))
                self.assertEqual(skeleton(outline(row)), told)
                self.assertEqual(outline_of(told), outline(row))
                found[told] = True
            closed = ["".join(text) for text in product("ab", repeat=2 * many) if does_close(PAIR, text)]
            self.assertEqual(sorted(found), closed)

    def naive(self, row):
        if not row:
            return ""
        end = 1
        while end < len(row) and row[end] > row[0]:
            end += 1
        return "a" + self.naive(row[1:end]) + "b" + self.naive(row[end:])

    def test_shifts_in_take_a_b_over_what_closes(self):
        chance = Random(4)
        moved = 0
        for _ in range(200):
            row = random_outline(chance, chance.randint(2, 9))
            line = chance.randint(1, len(row) - 1)
            before, after = skeleton(outline(row)), skeleton(shifted(outline(row), [("in", line)]))
            at = [place for place, sign in enumerate(before) if sign == "a"][line]
            if before[at - 1] == "a":
                self.assertEqual(after, before)
                continue
            end = at + 2
            while not does_close(PAIR, before[at:end]):
                end += 1
            self.assertEqual(after, before[:at - 1] + before[at:end] + "b" + before[end:])
            moved += 1
        self.assertGreater(moved, 50)

    def test_nineteen(self):
        self.assertEqual(skeleton(outline(range(19))), "a" * 19 + "b" * 19)
        self.assertEqual(outline_of("a" * 19 + "b" * 19), outline(range(19)))
        self.assertEqual((skeleton(""), outline_of("ab"), outline_of("ab" * 3)), ("ab", "", "\n\n"))

    def test_errors(self):
        self.refuse_each(InvalidText, NO_OUTLINES, skeleton)
        wrong = ["", "a", "b", "ba", "aab", "abb", "abba", "acb", "ab ", " ab", "ab\n", "aa", "bb", "cd", "abc", "a b",
                 "\n"]
        self.refuse_each(InvalidText, NO_TEXTS + wrong, outline_of)
        self.assertTrue(is_outline(outline_of("aabbab")))


if __name__ == "__main__":
    unittest.main()
