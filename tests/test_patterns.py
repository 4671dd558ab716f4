"""[80] to [84]: patterns, matches, replacing and rules."""

import re
import unittest
from itertools import product
from random import Random

from everrow.errors import (
    InvalidHistory, InvalidName, InvalidNumber, InvalidPattern, InvalidRules, InvalidState, InvalidText,
)
from everrow.history import History, is_state, seen, text_of, whole
from everrow.patterns import (
    common_text, fits, fits_less, found_signs, matches, next_match, parting_text, replaced, same_fits, settle, struck,
)
from tests import naive
from tests.cases import Case
from tests.makers import (
    NO_HISTORIES, NO_LISTS, NO_NAMES, NO_NUMBERS, NO_TEXTS, PLAIN, chain, heap, no_states, plain, random_deeds,
)

GAP = ("gap",)
LETTERS = "abcdefghijklmnopqrstuvwxyz"
NO_PATTERNS = NO_LISTS + [
    [], ["a"] * 7, [GAP], ["a", GAP], [GAP, "a"], ["a", GAP, GAP, "b"], [""], ["abcdefg"], ["A"], ["a\n"], ["a."],
    [None], [True], [1], [["a"]], [("gap", "a")], ["a", ["gap"], "b"], ["a", (), "b"], [("set",)], [("set", "")],
    [("set", "ba")], [("set", "aa")], [("set", "a b")], [("set", " a")], [("set", "A")], [("set", ["a"])],
    [("set", "a", "b")], [["set", "a"]], [("set", 1)], [("sets", "a")], ["a", None], [(("set",), "a")], [{}],
    ("a",), [("gap",), ("gap",)],
]


def random_pattern(chance, most=6, letters="ab", longest=2):
    """A pattern of at most so many items."""
    while True:
        items = []
        for _ in range(chance.randint(1, most)):
            word = "".join(chance.choice(letters + " ") for _ in range(chance.randint(1, longest)))
            some = ("set", "".join(sorted(chance.sample(letters, chance.randint(1, len(letters))))))
            items.append(chance.choice([word, some, GAP]))
        if GAP not in (items[0], items[-1]) and (GAP, GAP) not in list(zip(items, items[1:])):
            return items


def expression(pattern):
    """What Python's own regular expressions call a pattern."""
    parts = {GAP: "[^\n]*"}
    rows = [parts[item] if item == GAP else re.escape(item) if isinstance(item, str) else f"[{item[1]}]"
            for item in pattern]
    return re.compile("".join(rows))


def does_fit(pattern, text):
    return expression(pattern).fullmatch(text) is not None


def all_texts(most, letters):
    """All texts of at most so many signs, the least one first."""
    signs = sorted(letters)
    return ["".join(row) for size in range(most + 1) for row in product(signs, repeat=size)]


def naive_matches(pattern, text):
    """The matches, by trying all stretches."""
    made, found, place = expression(pattern), [], 0
    while place <= len(text):
        ends = [end for end in range(place, len(text) + 1) if made.fullmatch(text[place:end])]
        if ends:
            found.append((place, ends[0]))
            place = ends[0]
        else:
            place += 1
    return found


class FitsTest(Case):
    """[80]"""

    def test_all(self):
        chance = Random(1)
        texts = all_texts(5, "ab \n")
        told = set()
        for _ in range(60):
            pattern = random_pattern(chance)
            made = expression(pattern)
            for text in texts:
                wanted = made.fullmatch(text) is not None
                self.assertIs(fits(pattern, text), wanted, (pattern, text))
                told.add(wanted)
        self.assertEqual(told, {True, False})

    def test_edges(self):
        self.assertTrue(fits(["abcdef"] * 6, "abcdef" * 6))
        self.assertFalse(fits(["abcdef"] * 6, "abcdef" * 5))
        self.assertTrue(fits(["a", GAP, "b"], "a" + "c" * 198 + "b"))
        self.assertTrue(fits(["a", GAP, "b"], "ab"))
        self.assertFalse(fits(["a", GAP, "b"], "a\nb"))
        self.assertFalse(fits(["a", GAP, "b"], ""))
        self.assertFalse(fits(["a", GAP, "a"], "a"))
        self.assertTrue(fits(["a", GAP, "b", GAP, "c"], "axbb c"))
        self.assertFalse(fits(["a", GAP, "b", GAP, "c"], "axb\nc"))
        for letter in LETTERS:
            self.assertTrue(fits([("set", LETTERS)], letter))
            self.assertIs(fits([("set", "m")], letter), letter == "m")
        self.assertFalse(fits([("set", LETTERS)], " "))
        self.assertFalse(fits([("set", LETTERS)], "\n"))
        self.assertTrue(fits([" "], " "))
        # Words and sets beside one another need not be parted by gaps.
        self.assertTrue(fits(["a", "b", ("set", "cd"), ("set", "c"), " e"], "abdc e"))

    def test_errors(self):
        calls = [
            lambda pattern, text: fits(pattern, text), lambda pattern, text: matches(pattern, text),
            lambda pattern, text: struck(pattern, text), lambda pattern, text: next_match(pattern, text, None),
        ]
        for call in calls:
            self.refuse_each(InvalidPattern, NO_PATTERNS, lambda value: call(value, None))
            self.refuse_each(InvalidText, NO_TEXTS, lambda value: call(["a"], value))

    def test_lists_stay(self):
        pattern = ["a", GAP, ("set", "ab")]
        matches(pattern, "aab").append(1)
        struck(pattern, "aab").append(1)
        self.assertEqual((pattern, matches(pattern, "aab")), (["a", GAP, ("set", "ab")], [(0, 2)]))


class MatchesTest(Case):
    """[81]"""

    def test_all(self):
        chance = Random(2)
        for _ in range(300):
            pattern = random_pattern(chance, 5)
            text = "".join(chance.choice("aaabbb \n") for _ in range(chance.randint(0, 14)))
            found = naive_matches(pattern, text)
            self.assertEqual(matches(pattern, text), found)
            self.assertEqual(struck(pattern, text), [end - 1 for _, end in found])
            self.check_struck(pattern, text)
            for place in range(len(text) + 1):
                self.assertEqual(next_match(pattern, text, place), self.sought(pattern, text, place))

    def sought(self, pattern, text, place):
        made = expression(pattern)
        for begin in list(range(place, len(text))) + list(range(place)):
            for end in range(begin, len(text) + 1):
                if made.fullmatch(text[begin:end]):
                    return (begin, end)
        return None

    def check_struck(self, pattern, text):
        """Each stretch that fits has a last place; so many lie apart; so no fewer places are in all of them."""
        made, places = expression(pattern), struck(pattern, text)
        stretches = [(begin, end) for begin in range(len(text)) for end in range(begin + 1, len(text) + 1)
                     if made.fullmatch(text[begin:end])]
        for begin, end in stretches:
            self.assertTrue(any(begin <= place < end for place in places))
        most = 0
        for begin, end in sorted(stretches, key=lambda one: one[1]):
            if most == 0 or begin >= last:
                most, last = most + 1, end
        self.assertEqual(len(matches(pattern, text)), most)

    def test_edges(self):
        self.assertEqual(matches(["aa"], "aaaaa"), [(0, 2), (2, 4)])
        self.assertEqual(matches(["a", GAP, "b"], "aabb"), [(0, 3)])
        self.assertEqual(matches(["a", GAP, "b"], "a\nab"), [(2, 4)])
        self.assertEqual(matches(["a"], ""), [])
        self.assertEqual(matches(["ab"], "a"), [])
        self.assertEqual(matches([("set", "ab")], "ab" * 100), [(k, k + 1) for k in range(200)])
        self.assertEqual(struck([("set", "ab")], "ab\nb"), [0, 1, 3])
        self.assertEqual(next_match(["a"], "ba", 2), (1, 2))
        self.assertEqual(next_match(["a"], "ba", 0), (1, 2))
        self.assertIsNone(next_match(["a"], "bb", 2))
        self.assertIsNone(next_match(["a"], "", 0))
        # A match that begins ahead of the place is found from the beginning on, over the place.
        self.assertEqual(next_match(["aab"], "aab", 1), (0, 3))

    def test_errors(self):
        values = NO_NUMBERS + [-1, 3]
        self.refuse_each(InvalidNumber, values, lambda value: next_match(["a"], "ab", value))


class CompareTest(Case):
    """[82]"""

    def pairs(self):
        chance = Random(3)
        found = [(random_pattern(chance, 4), random_pattern(chance, 4)) for _ in range(150)]
        found += [(["ab"], ["a", "b"]), (["a", GAP, "b"], ["a", GAP, "b", GAP, "b"]), (["a", ("set", "ab")], ["ab"]),
                  (["a", GAP, "b", GAP, "a"], ["a", GAP, "ba", GAP, "a"]), ([("set", "a")], ["a"]),
                  (["a", GAP, ("set", "ab")], ["a", GAP, "a"]), (["a", GAP, "b"], ["a", GAP, " ", GAP, "b"])]
        return found + [(other, one) for one, other in found[-7:]]

    def test_all(self):
        # A letter that no pattern names stands for all such letters; the line end and the blank come first.
        texts = all_texts(6, "abc \n")
        told = set()
        for one, other in self.pairs():
            first, second = expression(one), expression(other)
            rows = [(text, first.fullmatch(text) is not None, second.fullmatch(text) is not None) for text in texts]
            apart = next((text for text, here, there in rows if here != there), None)
            common = next((text for text, here, there in rows if here and there), None)
            self.check_least(parting_text(one, other), apart, one, other, False)
            self.check_least(common_text(one, other), common, one, other, True)
            self.assertIs(same_fits(one, other), parting_text(one, other) is None)
            less = fits_less(one, other)
            if less:
                self.assertFalse([text for text, here, there in rows if here and not there])
            elif parting_text(one, other) in texts:
                self.check_not_less(one, other, rows)
            self.assertIs(same_fits(one, other), less and fits_less(other, one))
            told.add((same_fits(one, other), less, common_text(one, other) is None))
        self.assertTrue({(True, True, False), (False, True, False), (False, False, False),
                         (False, False, True)} <= told)

    def check_least(self, text, wanted, one, other, both):
        """Holds a text against the least one of at most six signs, if there is one, or else against what it is."""
        if wanted is not None:
            self.assertEqual(text, wanted)
        elif text is not None:
            self.assertGreater(len(text), 6)
            self.assertIs(does_fit(one, text) == does_fit(other, text), both)

    def check_not_less(self, one, other, rows):
        more = [text for text, here, there in rows if here and not there]
        text = parting_text(one, other)
        if not more:
            self.assertFalse(does_fit(one, text))

    def test_edges(self):
        self.assertIsNone(parting_text(["ab"] * 6, ["ababab"] * 2))
        self.assertEqual(parting_text(["b"], ["c"]), "b")
        self.assertEqual(parting_text([("set", LETTERS)], [("set", LETTERS[1:])]), "a")
        self.assertEqual(parting_text(["a", GAP, "b"], ["a", GAP, "b", GAP, "b"]), "ab")
        self.assertEqual(parting_text(["a", GAP, "a"], ["aa"]), "a a")
        self.assertEqual(common_text(["a", GAP, "b"], ["a", GAP, "b"]), "ab")
        self.assertEqual(common_text(["a", GAP, "z", GAP, "b"], [("set", LETTERS), GAP, " ", GAP, "b"]), "a zb")
        self.assertEqual(common_text(["abcdef"] * 6, ["a", GAP, "f"]), "abcdef" * 6)
        self.assertIsNone(common_text(["a", GAP, "b"], ["b", GAP, "a"]))
        self.assertIsNone(common_text([" "], [("set", LETTERS)]))
        self.assertTrue(fits_less(["abcdef"] * 6, ["ab", GAP, "ef"]))
        self.assertFalse(fits_less(["ab", GAP, "ef"], ["abcdef"] * 6))
        self.assertTrue(same_fits(["abc", "abc"], ["abcabc"]))
        self.assertFalse(same_fits(["a"], [("set", "ab")]))

    def test_errors(self):
        for call in (same_fits, fits_less, parting_text, common_text):
            self.refuse_each(InvalidPattern, NO_PATTERNS, lambda value: call(value, None))
            self.refuse_each(InvalidPattern, NO_PATTERNS, lambda value: call(["a"], value))


def wanted_deeds(deeds, state, hand, pattern, text):
    """The deeds of a replacing, each made for itself."""
    signs, made = naive.seen(deeds, state), []
    number = max([deed[1][0] for deed in deeds], default=0)
    for begin, end in reversed(naive_matches(pattern, naive.text(deeds, state))):
        if text:
            number += 1
            made.append(("put", (number, hand), signs[end - 1], text))
        for at in range(begin, end, 6):
            number += 1
            made.append(("drop", (number, hand), sorted(signs[at:min(at + 6, end)])))
    return made


class ReplacedTest(Case):
    """[83]"""

    def test_all(self):
        changed = 0
        for seed in range(150):
            deeds = random_deeds(seed, 1 + seed % 7, drops=4, letters="aab\n")
            given, chance = History(deeds), Random(seed)
            state = chance.choice(naive.states(deeds))
            pattern, text = random_pattern(chance, 3), chance.choice(["", "a", "xyz\n b"])
            shown, signs = naive.text(deeds, state), naive.seen(deeds, state)
            found = naive_matches(pattern, shown)
            changed += len(found) > 1
            self.assertEqual(found_signs(given, state, pattern), [(signs[one], signs[end - 1]) for one, end in found])
            told = replaced(given, state, "cy", pattern, text)
            self.assertEqual(told, wanted_deeds(deeds, state, "cy", pattern, text))
            if len(deeds) + len(told) <= 24:
                self.check_shown(given, state, told, text, shown, found)
        self.assertGreater(changed, 10)

    def check_shown(self, given, state, told, text, shown, found):
        more = History(given.deeds() + told)
        out, last = "", 0
        for begin, end in found:
            out, last = out + shown[last:begin] + text, end
        self.assertEqual(text_of(more, sorted(state + [deed[1] for deed in told])), out + shown[last:])
        # Each deed can be left out.
        for deed in told:
            self.assertTrue(is_state(more, sorted(state + [other[1] for other in told if other != deed])))

    def test_edges(self):
        self.assertEqual(replaced(plain(), [], "a", ["a"], "x"), [])
        self.assertEqual(found_signs(History([]), [], ["a"]), [])
        self.assertEqual(replaced(History([]), [], "a", ["a"], "x"), [])
        self.assertEqual(replaced(plain(), [(1, "ann")], "a", ["ab"], ""), [("drop", (4, "a"), PLAIN_SIGNS[:2])])
        self.assertEqual(replaced(plain(), [(1, "ann")], "a", ["b"], "abcdef"), [
            ("put", (4, "a"), (1, "ann", 1), "abcdef"), ("drop", (5, "a"), [(1, "ann", 1)])])
        self.assertEqual(found_signs(plain(), whole(plain()), ["a", GAP, "x"]), [((1, "ann", 0), (2, "bob", 0))])
        deeds = chain(3, "abcdef")
        told = replaced(History(deeds), whole(History(deeds)), "b", ["ab", GAP, "ef", "ab", GAP, "ab"], "z")
        self.assertEqual([len(deed[2]) for deed in told[1:]], [6, 6, 2])
        self.assertEqual(told[0], ("put", (4, "b"), (3, "a", 1), "z"))
        # The list of each drop is in order, whatever the order of the text.
        told = replaced(History(heap(8)), whole(History(heap(8))), "b", ["aaaa", "aaaa"], "")
        self.assertEqual(told, [("drop", (9, "b"), [(k, "a", 0) for k in range(3, 9)]),
                                ("drop", (10, "b"), [(1, "a", 0), (2, "a", 0)])])

    def test_twenty_four(self):
        deeds = chain(4, "ababa")
        given = History(deeds)
        for text, many in (("", 20), ("z", 40)):
            told = replaced(given, whole(given), "b", [("set", "ab")], text)
            self.assertEqual(len(told), many)
            self.assertEqual(told, wanted_deeds(deeds, whole(given), "b", [("set", "ab")], text))
        more = History(deeds + replaced(given, whole(given), "b", [("set", "ab")], ""))
        self.assertEqual((len(whole(more)), seen(more, whole(more))), (24, []))
        deeds = chain(2, "ababa") + [("put", (2 + k, "c"), None, "c") for k in range(2)]
        given = History(deeds)
        more = History(deeds + replaced(given, whole(given), "b", [("set", "ab")], "yz"))
        self.assertEqual((len(whole(more)), text_of(more, whole(more))), (24, "cc" + "yz" * 10))

    def test_great_numbers(self):
        given = History([("put", (10 ** 17, "a"), None, "ab")])
        self.assertEqual(replaced(given, whole(given), "b", ["b"], "c"), [
            ("put", (10 ** 17 + 1, "b"), (10 ** 17, "a", 1), "c"), ("drop", (10 ** 17 + 2, "b"), [(10 ** 17, "a", 1)])])

    def test_errors(self):
        self.refuse_each(InvalidHistory, NO_HISTORIES, lambda value: found_signs(value, None, None))
        self.refuse_each(InvalidState, no_states(), lambda value: found_signs(plain(), value, None))
        self.refuse_each(InvalidPattern, NO_PATTERNS, lambda value: found_signs(plain(), [], value))
        self.refuse_each(InvalidHistory, NO_HISTORIES, lambda value: replaced(value, None, None, None, None))
        self.refuse_each(InvalidState, no_states(), lambda value: replaced(plain(), value, None, None, None))
        self.refuse_each(InvalidName, NO_NAMES, lambda value: replaced(plain(), [], value, None, None))
        self.refuse_each(InvalidPattern, NO_PATTERNS, lambda value: replaced(plain(), [], "a", value, None))
        values = NO_TEXTS + ["abcdefg"]
        self.refuse_each(InvalidText, values, lambda value: replaced(plain(), [], "a", ["z"], value))

    def test_arguments_stay(self):
        state, pattern = [(1, "ann")], ["b"]
        replaced(plain(), state, "a", pattern, "c")[1][2].append(1)
        found_signs(plain(), state, pattern).append(1)
        self.assertEqual((state, pattern, plain().deeds()), ([(1, "ann")], ["b"], PLAIN))


PLAIN_SIGNS = [(1, "ann", 0), (1, "ann", 1), (2, "bob", 0)]


def naive_pass(rules, text):
    for word, other in rules:
        out, at = "", 0
        while at < len(text):
            if text[at:at + len(word)] == word:
                out, at = out + other, at + len(word)
            else:
                out, at = out + text[at], at + 1
        text = out
    return text


def naive_settle(rules, text, most):
    """The list of all texts, and what it says."""
    rows = [text]
    while True:
        text = naive_pass(rules, text)
        rows.append(text)
        if rows[-1] == rows[-2]:
            return ("ends", len(rows) - 2, text)
        if text in rows[:-1]:
            return ("ring", rows.index(text), len(rows) - 1 - rows.index(text))
        if len(text) > most:
            return ("outgrows", len(rows) - 1)
        if len(rows) == 201:
            return ("lasts",)


class SettleTest(Case):
    """[84]"""

    def test_all(self):
        words = {}
        for seed in range(1500):
            chance = Random(seed)
            rules = []
            for _ in range(chance.randint(1, 4)):
                word = "".join(chance.choice("abc") for _ in range(chance.choice([1, 1, 2])))
                rules.append((word, "".join(chance.choice("abc") for _ in range(chance.choice([0, 1, 1, 1, 2, 3])))))
            if seed % 4 == 0:
                # Three rules that exchange two letters, and perhaps one more.
                one, two, three = chance.sample("abc", 3)
                rules = [(one, three), (two, one), (three, two)] + rules[:chance.randint(0, 1)]
            text = "".join(chance.choice("abc\n") for _ in range(chance.randint(0, 8)))
            most = chance.choice([0, 8, 40])
            told = settle(rules, text, most)
            self.assertEqual(told, naive_settle(rules, text, most))
            words[told[0]] = words.get(told[0], 0) + 1
            if len(rules) == 1 and len(rules[0][1]) <= len(rules[0][0]):
                self.assertNotEqual(told[0], "ring")
        self.assertTrue(min(words[word] for word in ("ends", "ring", "outgrows")) > 5, words)

    def test_edges(self):
        self.assertEqual(settle([("a", "b")], "", 0), ("ends", 0, ""))
        self.assertEqual(settle([("a", "b")], "ccc", 0), ("ends", 0, "ccc"))
        self.assertEqual(settle([("a", "b")], "a", 0), ("outgrows", 1))
        self.assertEqual(settle([("a", "")], "aa", 0), ("ends", 1, ""))
        self.assertEqual(settle([("a", "b"), ("b", "a")], "a", 0), ("ends", 0, "a"))
        self.assertEqual(settle([("a", "c"), ("b", "a"), ("c", "b")], "a", 9), ("ring", 0, 2))
        self.assertEqual(settle([("b", "d"), ("a", "c"), ("d", "a"), ("c", "b")], "ax", 9), ("ring", 0, 2))
        self.assertEqual(settle([("c", "a"), ("a", "b"), ("ab", "d"), ("b", "c")], "d", 9), ("ends", 0, "d"))
        self.assertEqual(settle([("abcdef", " a b c")], "abcdef", 400), ("ends", 1, " a b c"))
        self.assertEqual(settle([("a", "aa")], "a" * 200, 400), ("outgrows", 2))
        self.assertEqual(settle([("a", "aa")], "a" * 200, 399), ("outgrows", 1))
        # A text that ends, or comes again, is looked at ahead of its length.
        self.assertEqual(settle([("a", "b")], "bb", 1), ("ends", 0, "bb"))
        turn = [("a", "c"), ("b", "a"), ("c", "b")]
        self.assertEqual([settle(turn, "ab", most) for most in (2, 1)], [("ring", 0, 2), ("outgrows", 1)])
        self.assertEqual(settle(turn + [("d", "a")], "da", 9), ("ring", 1, 2))
        # The first text comes again longer than `most`: the one between was not.
        shrink = [("aa", "d"), ("b", "aa"), ("d", "b")]
        self.assertEqual([naive_pass(shrink, text) for text in ("aa", "b")], ["b", "aa"])
        self.assertEqual([settle(shrink, "aa", most) for most in (1, 0)], [("ring", 0, 2), ("outgrows", 1)])
        self.assertEqual(settle([("b", "a")] + turn, "cab", 9), naive_settle([("b", "a")] + turn, "cab", 9))

    def test_two_hundred_passes(self):
        # Something that goes through a text, one place with each pass.
        self.assertEqual(settle([("xa", "ax")], "x" + "a" * 199, 400), ("ends", 199, "a" * 199 + "x"))
        walk = [("xa", "by"), ("y", "x")]
        self.assertEqual(settle(walk, "x" + "a" * 199, 400), ("ends", 199, "b" * 199 + "x"))
        self.assertEqual(settle([("x", "yx")], "x", 400), ("lasts",))
        self.assertEqual(settle([("x", "yx")], "x", 201), ("lasts",))
        self.assertEqual(settle([("x", "yx")], "x", 200), ("outgrows", 200))
        self.assertEqual(settle([("x", "yx")], "xa", 200), ("outgrows", 199))

    def test_errors(self):
        values = NO_LISTS + [
            [], [("a", "b")] * 5, [("a",)], [("a", "b", "c")], [["a", "b"]], [("", "b")], [("a\n", "b")], [("a", "\n")],
            [("abcdefg", "")], [("a", "abcdefg")], [("A", "b")], [(1, "b")], [("a", None)], [None], [("a", "b"), 0],
            [("a", ("b",))], [(["a"], "b")], (("a", "b"),), [True],
        ]
        self.refuse_each(InvalidRules, values, lambda value: settle(value, None, None))
        self.refuse_each(InvalidText, NO_TEXTS, lambda value: settle([("a", "b")], value, None))
        self.refuse_each(InvalidNumber, NO_NUMBERS + [-1, 401], lambda value: settle([("a", "b")], "a", value))

    def test_lists_stay(self):
        rules = [("a", "b"), ("b", "c")]
        settle(rules, "ab", 9)
        self.assertEqual(rules, [("a", "b"), ("b", "c")])


if __name__ == "__main__":
    unittest.main()
