"""[130], [131]: several cursors."""

import unittest
from itertools import combinations, product
from random import Random

from everrow.changes import Change, done
from everrow.cursors import alike_at, effect_at, meet_within, pressed_at, unlike_at
from everrow.errors import InvalidKeys, InvalidList, InvalidNumber, InvalidText
from everrow.keys import alike, effect, pressed, unlike
from tests.cases import Case
from tests.makers import NO_LISTS, NO_NUMBERS, NO_TEXTS
from tests.test_keys import NO_KEYS
from tests.typing_by_hand import random_keys, sum_of

LEFT, RIGHT, RUB, CUT = ("left", 1), ("right", 1), ("rub", 1), ("cut", 1)
FIRST, LAST, WRITE = ("first",), ("last",), ("write", "x")
# For a text of two signs.
NO_CURSORS = NO_LISTS + [
    [], [0, 1, 2, 3, 4], [-1], [3], [0, 3], [1, 0], [1, 1], [0, 2, 1], [True], [0, True], ["1"], [None], [(1,)], [[1]],
    [0, None], (0, 1),
]


def press(row, cursors, keys):
    """One key at a time, as [130] tells it, item by item and gap by gap."""
    row, cursors = list(row), set(cursors)
    for key in keys:
        gaps = range(len(row) + 1)
        if key[0] in ("left", "right"):
            step = -key[1] if key[0] == "left" else key[1]
            cursors = {min(max(at + step, 0), len(row)) for at in cursors}
        elif key[0] in ("first", "last"):
            cursors = {0 if key[0] == "first" else len(row)}
        elif key[0] == "write":
            made, places = [], set()
            for gap in gaps:
                if gap in cursors:
                    made += list(key[1])
                    places.add(len(made))
                made += row[gap:gap + 1]
            row, cursors = made, places
        else:
            reach = range(-key[1], 0) if key[0] == "rub" else range(key[1])
            gone = {at + step for at in cursors for step in reach}
            cursors = {len([place for place in range(at) if place not in gone]) for at in cursors}
            row = [item for place, item in enumerate(row) if place not in gone]
    return row, sorted(cursors)


def text_behind(text, cursors, keys):
    row, cursors = press(text, cursors, keys)
    return "".join(row), cursors


def cursor_lists(size, most):
    return [list(chosen) for many in range(1, most + 1) for chosen in combinations(range(size + 1), many)]


def least_unlike(one, other, number, sizes):
    """The least of so many sizes at which two lists of keys part at some cursors, or None."""
    for size in range(sizes):
        for cursors in cursor_lists(size, number):
            if press(range(size), cursors, one) != press(range(size), cursors, other):
                return size
    return None


def small_keys(chance, many, most):
    """Keys whose k add up to at most so much."""
    while True:
        keys = random_keys(chance, chance.randint(0, many), most, longest=2)
        if sum_of(keys) <= most:
            return keys


class PressedTest(Case):
    """[130]"""

    def test_all(self):
        chance = Random(1)
        for _ in range(1500):
            keys = random_keys(chance, chance.randint(0, 5), 3)
            text = "".join(chance.choice("abc\n ") for _ in range(chance.randint(0, 9)))
            cursors = chance.choice(cursor_lists(len(text), 4))
            self.assertEqual(pressed_at(text, cursors, keys), text_behind(text, cursors, keys))

    def test_one_key(self):
        """Each single key at all cursors of short texts."""
        for key in (LEFT, ("left", 2), RIGHT, ("right", 3), RUB, ("rub", 2), ("rub", 9), CUT, ("cut", 2), ("cut", 9),
                    FIRST, LAST, WRITE, ("write", "xyz")):
            for size in range(6):
                for cursors in cursor_lists(size, 4):
                    text = "abcde"[:size]
                    self.assertEqual(pressed_at(text, cursors, [key]), text_behind(text, cursors, [key]))

    def test_one_cursor_is_one_cursor(self):
        chance = Random(2)
        for _ in range(300):
            keys = random_keys(chance, chance.randint(0, 6), 9)
            text = "abcdefghij"[:chance.randint(0, 10)]
            at = chance.randint(0, len(text))
            made, cursor = pressed(text, at, keys)
            self.assertEqual(pressed_at(text, [at], keys), (made, [cursor]))
            self.assertEqual(effect_at(len(text), [at], keys), (effect(len(text), at, keys)[0], [cursor]))

    def test_edges(self):
        self.assertEqual(pressed_at("", [0], []), ("", [0]))
        self.assertEqual(pressed_at("abc", [0, 1, 2, 3], []), ("abc", [0, 1, 2, 3]))
        self.assertEqual(pressed_at("abc", [0, 1, 2, 3], [WRITE]), ("xaxbxcx", [1, 3, 5, 7]))
        self.assertEqual(pressed_at("abc", [0, 1, 2, 3], [WRITE, RUB]), ("abc", [0, 1, 2, 3]))
        # They come to one gap, and are one.
        self.assertEqual(pressed_at("abc", [0, 1], [LEFT, RIGHT, WRITE]), ("axbc", [2]))
        self.assertEqual(pressed_at("abc", [2, 3], [RIGHT, WRITE]), ("abcx", [4]))
        self.assertEqual(pressed_at("abcde", [1, 3], [("rub", 2)]), ("de", [0]))
        self.assertEqual(pressed_at("abcde", [1, 3], [("cut", 2)]), ("a", [1]))
        self.assertEqual(pressed_at("abcde", [1, 4], [("cut", 2)]), ("ad", [1, 2]))
        self.assertEqual(pressed_at("abcdef", [2, 3, 6], [("rub", 2)]), ("d", [0, 1]))
        self.assertEqual(pressed_at("abc", [0, 3], [LAST, WRITE]), ("abcx", [4]))
        self.assertEqual(pressed_at("ab" * 100, [0, 50, 100, 200], [("write", "abcdef")] * 8)[1], [48, 146, 244, 392])

    def test_effect(self):
        chance = Random(3)
        for _ in range(400):
            keys = random_keys(chance, chance.randint(0, 5), 3)
            size = chance.randint(0, 8)
            cursors = chance.choice(cursor_lists(size, 4))
            row, wanted = press(range(size), cursors, keys)
            change, told = effect_at(size, cursors, keys)
            self.assertEqual((change, told), (Change(size, row), wanted))
            text = "abcdefgh"[:size]
            self.assertEqual((done(change, text), told), pressed_at(text, cursors, keys))
        change, cursors = effect_at(200, [0, 1, 100, 200], [("write", "abcdef")] * 8)
        self.assertEqual((len(change.row()), cursors), (392, [48, 97, 244, 392]))

    def test_errors(self):
        self.refuse_each(InvalidText, NO_TEXTS, lambda value: pressed_at(value, None, None))
        self.refuse_each(InvalidList, NO_CURSORS, lambda value: pressed_at("ab", value, None))
        for call in (lambda value: pressed_at("abcdefgh", value, None), lambda value: effect_at(8, value, None)):
            self.refuse_each(InvalidList, [[0, 1, 2, 3, 4], [0, 2, 4, 6, 8], [5, 4], [0, 9], [2, 2]], call)
        self.refuse_each(InvalidNumber, NO_NUMBERS + [-1, 201], lambda value: effect_at(value, None, None))
        self.refuse_each(InvalidList, NO_CURSORS, lambda value: effect_at(2, value, None))
        wrong = NO_LISTS + [[LEFT] * 13] + [[LEFT, value] for value in NO_KEYS]
        self.refuse_each(InvalidKeys, wrong, lambda value: pressed_at("ab", [0, 2], value))
        self.refuse_each(InvalidKeys, wrong, lambda value: effect_at(2, [0, 2], value))

    def test_lists_stay(self):
        cursors, keys = [0, 2], [RIGHT, WRITE]
        pressed_at("ab", cursors, keys)[1].clear()
        effect_at(2, cursors, keys)[1].clear()
        pressed_at("ab", cursors, [])[1].clear()
        effect_at(2, cursors, [])[1].clear()
        self.assertEqual((cursors, keys), ([0, 2], [RIGHT, WRITE]))
        told = pressed_at("abc", cursors, [])[1]
        cursors.clear()
        self.assertEqual(told, [0, 2])


class AlikeTest(Case):
    """[131]"""

    def pairs(self):
        """Pairs of lists of keys with a sum of at most 2, some of them alike at one cursor or at more."""
        chance = Random(4)
        found = []
        for _ in range(240):
            one = small_keys(chance, 4, 1)
            at = chance.randint(0, len(one))
            more = chance.choice([[WRITE, RUB], [LEFT, RIGHT], [WRITE, LEFT, CUT], [CUT, WRITE], [("write", "xx"), RUB],
                                  []])
            found.append((one, one[:at] + more + one[at:]))
            found.append((small_keys(chance, 3, 2), small_keys(chance, 3, 2)))
        # Alike at one cursor alone.
        found += [([CUT, WRITE], [WRITE, CUT]), ([("cut", 2), WRITE], [WRITE, ("cut", 2)]),
                  ([RUB, CUT, WRITE], [RUB, WRITE, CUT])]
        return [(one, other) for one, other in found if max(sum_of(one), sum_of(other)) <= 2]

    def test_all(self):
        alikes = {1: 0, 2: 0, 3: 0}
        for one, other in self.pairs():
            for number in (1, 2, 3):
                # As far as the point tells to look, at two cursors; at three as far as can be gone through.
                k = max(sum_of(one), sum_of(other))
                wanted = least_unlike(one, other, number, min((number + 1) * (2 * k + 1) + 1, (0, 12, 12, 8)[number]))
                told = unlike_at(one, other, number)
                self.assertIs(alike_at(one, other, number), told is None)
                self.assertEqual(None if told is None else len(told[0]), wanted, (one, other, number))
                alikes[number] += told is None
                if told is not None:
                    self.check_apart(one, other, number, *told)
        self.assertTrue(alikes[1] > alikes[2] >= alikes[3] > 50, alikes)

    def check_apart(self, one, other, number, text, cursors):
        self.assertIn(cursors, cursor_lists(len(text), number))
        self.assertNotEqual(text_behind(text, cursors, one), text_behind(text, cursors, other))

    def test_larger_sums(self):
        chance = Random(5)
        for _ in range(40):
            one, other = small_keys(chance, 5, 5), small_keys(chance, 5, 5)
            told = unlike_at(one, other, 2)
            wanted = least_unlike(one, other, 2, 9)
            self.assertEqual(None if told is None else len(told[0]), wanted, (one, other))

    def test_only_far_apart(self):
        # Only at a text of so many signs do these part.
        five, four = [("cut", 2), ("cut", 3)], [("cut", 2), ("cut", 2)]
        self.assertEqual(unlike_at(five, four, 1), ("a" * 5, [0]))
        self.assertEqual(len(unlike_at(five, four, 3)[0]), 5)
        # Only if the cursors are just so far apart do they come to one gap.
        keys = [("left", 5)]
        for number in (2, 3):
            told = unlike_at(keys + [WRITE], [("left", 4), WRITE, LEFT], number)
            self.check_apart(keys + [WRITE], [("left", 4), WRITE, LEFT], number, *told)
        self.assertTrue(alike_at(keys + [FIRST], [FIRST], 3))
        self.assertTrue(alike_at([("rub", 3), ("rub", 2)], [("rub", 2), ("rub", 3)], 3))

    def test_more_cursors_can_part(self):
        one, other = [RUB, WRITE], [WRITE, LEFT, RUB, RIGHT]
        self.assertTrue(alike_at(one, other, 1) and alike(one, other))
        self.assertFalse(alike_at(one, other, 2))
        self.assertEqual((unlike_at(one, other, 1), unlike(one, other)), (None, None))

    def test_at_one_cursor_it_is_alike(self):
        chance = Random(6)
        for _ in range(150):
            one, other = small_keys(chance, 3, 2), small_keys(chance, 3, 2)
            self.assertIs(alike_at(one, other, 1), alike(one, other))
            sizes = [None if told is None else len(told[0]) for told in (unlike(one, other), unlike_at(one, other, 1))]
            self.assertEqual(sizes[0], sizes[1])

    def test_typed_signs_tell(self):
        text, cursors = unlike_at([RUB, WRITE], [("write", "x"), RUB], 1)
        self.check_apart([RUB, WRITE], [WRITE, RUB], 1, text, cursors)
        # A sign taken out and written again is another one for most texts.
        text, cursors = unlike_at([RUB, ("write", "a")], [LEFT, RIGHT], 1)
        self.check_apart([RUB, ("write", "a")], [LEFT, RIGHT], 1, text, cursors)
        # Where all signs are an a they are alike.
        one, other = [("write", "a"), LAST, RUB], [RIGHT]
        text, cursors = unlike_at(one, other, 1)
        self.check_apart(one, other, 1, text, cursors)
        self.assertEqual(len(text), 1)
        self.assertEqual(unlike_at([], [WRITE], 3), ("", [0]))
        self.assertEqual(unlike_at([], [], 3), None)

    def test_meet_within(self):
        chance = Random(7)
        kinds = {}
        for _ in range(300):
            keys = small_keys(chance, 5, 3)
            told = meet_within(keys)
            if any(len(key) == 1 for key in keys):
                self.assertIsNone(told)
            else:
                wanted = [two - one for size in range(13) for one, two in combinations(range(size + 1), 2)
                          if len(press(range(size), [one, two], keys)[1]) == 1]
                self.assertEqual(told, max(wanted, default=0), keys)
            kinds[told] = kinds.get(told, 0) + 1
        self.assertTrue(all(kinds.get(kind, 0) > 5 for kind in (None, 0, 1, 2, 3)), kinds)

    def test_meet_within_edges(self):
        self.assertEqual(meet_within([]), 0)
        self.assertEqual(meet_within([WRITE] * 12), 0)
        self.assertIsNone(meet_within([WRITE, FIRST]))
        self.assertIsNone(meet_within([("rub", 5), LAST]))
        for word in ("left", "right", "rub", "cut"):
            self.assertEqual(meet_within([(word, 5)]), 5)
        self.assertEqual(meet_within([("rub", 2), ("cut", 3)]), 5)
        # What is written between keeps them apart.
        self.assertEqual(meet_within([WRITE, ("rub", 2)]), 1)
        self.assertEqual(meet_within([WRITE, RUB]), 0)
        # Only at an end do these come together.
        self.assertEqual(meet_within([LEFT, RIGHT, ("left", 2)]), 2)

    def test_errors(self):
        wrong = NO_LISTS + [[LEFT] * 13, [None], [LEFT, ("left", 10)], [("left", True)]]
        for call in (alike_at, unlike_at):
            self.refuse_each(InvalidKeys, wrong, lambda value: call(value, None, None))
            self.refuse_each(InvalidKeys, wrong, lambda value: call([LEFT], value, None))
            self.refuse_each(InvalidNumber, NO_NUMBERS + [0, 4, -1], lambda value: call([LEFT], [LEFT], value))
        self.refuse_each(InvalidKeys, wrong, meet_within)

    def test_lists_stay(self):
        one, other = [LEFT, WRITE], [WRITE]
        unlike_at(one, other, 2)[1].clear()
        alike_at(one, other, 2)
        meet_within(one)
        self.assertEqual((one, other), ([LEFT, WRITE], [WRITE]))


if __name__ == "__main__":
    unittest.main()
