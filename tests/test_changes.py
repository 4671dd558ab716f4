"""[70] to [73]: changes."""

import unittest
from itertools import combinations, product
from random import Random

from everrow.changes import Change, between, deeds_for, done, joined, least_change, parting, shelves, undone
from everrow.errors import (
    InvalidChange, InvalidHistory, InvalidItem, InvalidList, InvalidName, InvalidNumber, InvalidState, InvalidText,
)
from everrow.history import History, seen, text_of, whole
from tests import naive
from tests.cases import Case
from tests.makers import (
    NO_HISTORIES, NO_LISTS, NO_NAMES, NO_NUMBERS, NO_TEXTS, PLAIN, chain, heap, mixed, no_states, plain, random_deeds,
)

NO_CHANGES = [None, True, 0, "ab", [], (2, [0]), [2, [0]], {}, plain(), (0, [])]


def rows_of(size, most, letters="ab"):
    """All rows of at most so many items of changes of texts of a size."""
    found = [[]]
    for length in range(1, most + 1):
        for row in product([*letters, *range(size)], repeat=length):
            numbers = [item for item in row if isinstance(item, int)]
            if numbers == sorted(set(numbers)):
                found.append(list(row))
    return found


def random_change(chance, size, most=9, letters="abc"):
    numbers = sorted(chance.sample(range(size), chance.randint(0, size)))
    row = list(numbers)
    for _ in range(chance.randint(0, most)):
        row.insert(chance.randint(0, len(row)), chance.choice(letters))
    return Change(size, row)


def naive_done(row, text):
    out = ""
    for item in row:
        out += item if isinstance(item, str) else text[item]
    return out


def texts_of(size, letters="abc"):
    return ["".join(signs) for signs in product(letters, repeat=size)]


class ChangeTest(Case):
    """[70]"""

    def test_made_of(self):
        for size in range(4):
            for row in rows_of(size, 3, "a\n"):
                change = Change(size, row)
                self.assertEqual((change.size, change.row()), (size, row))
                self.assertEqual(Change(size=size, row=row), change)

    def test_edges(self):
        for size, row in ((0, []), (0, ["a"] * 400), (400, list(range(400))), (400, []), (400, [" "] * 400), (1, [0]),
                          (400, [0, 399]), (3, ["\n", 2, "z"])):
            change = Change(size, row)
            self.assertEqual((change.size, change.row()), (size, row))
        self.assertEqual(done(Change(0, ["a"] * 400), ""), "a" * 400)
        self.assertEqual(done(Change(400, list(range(400))), "ab" * 200), "ab" * 200)
        self.assertEqual(done(Change(400, []), "ab" * 200), "")

    def test_equal(self):
        rows = rows_of(2, 2)
        for one, other in product(rows, repeat=2):
            self.assertIs(Change(2, one) == Change(2, other), one == other)
        self.assertFalse(Change(2, [0]) == Change(3, [0]))
        self.assertTrue(Change(2, [0]) != Change(3, [0]))
        for value in NO_CHANGES:
            self.assertFalse(Change(2, [0]) == value)

    def test_done(self):
        for size in range(3):
            for row in rows_of(size, 3):
                for text in texts_of(size):
                    self.assertEqual(done(Change(size, row), text), naive_done(row, text))
        self.assertEqual(done(Change(4, [1, "x", "\n", 3, " "]), "a\n b"), "\nx\nb ")

    def test_lists_stay(self):
        row = [0, "x", 1]
        change = Change(2, row)
        row.clear()
        change.row().append("y")
        self.assertEqual(change.row(), [0, "x", 1])
        self.assertIsNot(change.row(), change.row())

    def test_wrong_sizes(self):
        self.refuse_each(InvalidNumber, NO_NUMBERS + [-1, 401, "2"], lambda value: Change(value, None))

    def test_wrong_rows(self):
        self.refuse_each(InvalidList, NO_LISTS + [(0,), ["a"] * 401, [None] * 401], lambda value: Change(2, value))

    def test_wrong_items(self):
        values = [None, True, False, -1, 2, 3, "", "ab", "A", "~", "\t", (0,), [0], {}, Change(2, [])]
        self.refuse_each(InvalidItem, values, lambda value: Change(2, ["a", value, None]))
        self.refuse_each(InvalidItem, [0], lambda value: Change(0, [value]))
        for row, at in (([0, 0], 1), ([1, 0], 1), ([1, "a", 1], 2), ([0, 2, 1, 0], 2), ([2, "a", "b", 0], 3)):
            self.refuse(InvalidItem, row[at], Change, 3, row)

    def test_wrong_texts(self):
        self.refuse_each(InvalidChange, NO_CHANGES, lambda value: done(value, None))
        self.refuse_each(InvalidText, NO_TEXTS + ["", "a", "abc"], lambda value: done(Change(2, [0]), value))


class JoinedTest(Case):
    """[71]"""

    def test_joined(self):
        chance = Random(1)
        for _ in range(300):
            size = chance.randint(0, 6)
            one = random_change(chance, size)
            other = random_change(chance, len(one.row()))
            text = "".join(chance.choice("defg") for _ in range(size))
            both = joined(one, other)
            self.assertEqual(done(both, text), done(other, done(one, text)))
            # Another change would do so, too, if the text had equal signs: so held against all texts of few signs.
            self.assertEqual(both.size, size)
            self.assertTrue(all(item in one.row() for item in both.row() if isinstance(item, int)))
        self.assertEqual(joined(Change(3, [0, "x", 2]), Change(3, [1, "y", 2])), Change(3, ["x", "y", 2]))
        self.assertEqual(joined(Change(0, []), Change(0, ["a"])), Change(0, ["a"]))
        full = Change(400, list(range(400)))
        self.assertEqual(joined(full, full), full)

    def test_joined_on_all_texts(self):
        for row in rows_of(2, 2):
            for other in rows_of(len(row), 2):
                both = joined(Change(2, row), Change(len(row), other))
                for text in texts_of(2, "cd"):
                    self.assertEqual(done(both, text), naive_done(other, naive_done(row, text)))

    def test_undone(self):
        chance = Random(2)
        for _ in range(300):
            size = chance.randint(0, 6)
            change = random_change(chance, size)
            text = "".join(chance.choice("ab\n ") for _ in range(size))
            back = undone(change, text)
            self.assertEqual(done(back, done(change, text)), text)
            row = change.row()
            self.assertEqual((back.size, len(back.row())), (len(row), size))
            kept = [number for number, item in enumerate(row) if isinstance(item, int)]
            self.assertEqual([item for item in back.row() if isinstance(item, int)], kept)
            for at, item in enumerate(back.row()):
                self.assertEqual(row[item] if isinstance(item, int) else item,
                                 at if isinstance(item, int) else text[at])
        self.assertEqual(undone(Change(0, ["a"] * 400), ""), Change(400, []))
        self.assertEqual(undone(Change(400, []), "a" * 400), Change(0, ["a"] * 400))

    def test_parting(self):
        for size in range(3):
            rows = rows_of(size, 2)
            for one, other in product(rows, repeat=2):
                told = parting(Change(size, one), Change(size, other))
                apart = [text for text in texts_of(size) if naive_done(one, text) != naive_done(other, text)]
                self.assertEqual(told is None, not apart)
                if told is not None:
                    self.assertEqual(len(told), size)
                    self.assertNotEqual(naive_done(one, told), naive_done(other, told))

    def test_parting_of_long_rows(self):
        chance = Random(3)
        for _ in range(200):
            size = chance.choice([5, 40, 400])
            one, other = random_change(chance, size, 0), random_change(chance, size, 0)
            told = parting(one, other)
            self.assertEqual(told is None, one == other)
            if told is not None:
                self.assertNotEqual(done(one, told), done(other, told))
        self.assertIsNone(parting(Change(0, []), Change(0, [])))
        self.assertEqual(parting(Change(0, []), Change(0, ["a"])), "")

    def test_errors(self):
        some = Change(2, [0, "a"])
        for call in (joined, parting):
            self.refuse_each(InvalidChange, NO_CHANGES, lambda value: call(value, None))
            self.refuse_each(InvalidChange, NO_CHANGES, lambda value: call(some, value))
        self.refuse_each(InvalidChange, [Change(1, []), Change(3, [])], lambda value: joined(some, value))
        self.refuse_each(InvalidChange, [Change(3, []), Change(0, [])], lambda value: joined(Change(3, [2]), value))
        self.refuse_each(InvalidChange, [Change(1, []), Change(3, [])], lambda value: parting(some, value))
        self.refuse_each(InvalidChange, NO_CHANGES, lambda value: undone(value, None))
        self.refuse_each(InvalidText, NO_TEXTS + ["", "a", "abc"], lambda value: undone(some, value))


def kept_at_most(text, other):
    """How many signs can be kept, by trying all choices of signs of the shorter text."""
    for many in range(min(len(text), len(other)), -1, -1):
        if {text_at(text, at) for at in combinations(range(len(text)), many)} & {
                text_at(other, at) for at in combinations(range(len(other)), many)}:
            return many
    return None


def text_at(text, places):
    return "".join(text[at] for at in places)


class LeastTest(Case):
    """[72]"""

    def check(self, text, other):
        change, lists = least_change(text, other), shelves(text, other)
        self.assertEqual(change.size, len(text))
        self.assertEqual(done(change, text), other)
        many = len([item for item in change.row() if isinstance(item, int)])
        # As many lists as numbers, each with at most one of the places of any change: so no change keeps more.
        self.assertEqual(len(lists), many)
        self.assertEqual(sorted(pair for row in lists for pair in row), [
            (i, j) for i in range(len(text)) for j in range(len(other)) if text[i] == other[j]])
        for row in lists:
            for one, two in combinations(sorted(row), 2):
                self.assertFalse(one[0] < two[0] and one[1] < two[1])
        return many

    def test_all(self):
        chance = Random(4)
        for _ in range(300):
            text, other = ["".join(chance.choice("ab\n") for _ in range(chance.randint(0, 7))) for _ in range(2)]
            self.assertEqual(self.check(text, other), kept_at_most(text, other))

    def test_edges(self):
        self.assertEqual(self.check("", ""), 0)
        self.assertEqual(shelves("", "ab"), [])
        self.assertEqual(least_change("ab", ""), Change(2, []))
        self.assertEqual(least_change("", "a b"), Change(0, ["a", " ", "b"]))
        self.assertEqual(self.check("ab" * 15, "ba" * 15), 29)
        self.assertEqual(self.check("a" * 30, "a" * 30), 30)
        self.assertEqual(least_change("a" * 30, "a" * 30), Change(30, list(range(30))))
        chance = Random(5)
        for _ in range(20):
            self.check(*["".join(chance.choice("abcd \n") for _ in range(30)) for _ in range(2)])

    def test_errors(self):
        for call in (least_change, shelves):
            self.refuse_each(InvalidText, NO_TEXTS, lambda value: call(value, None))
            self.refuse_each(InvalidText, NO_TEXTS, lambda value: call("a", value))


class BetweenTest(Case):
    """[73], `between`"""

    def test_all(self):
        for seed in range(20):
            deeds = random_deeds(seed, seed % 7, drops=2, letters="ab\n ")
            given, known = History(deeds), naive.signs(deeds)
            for (one, before), (other, after) in product(naive.all_seen(deeds)[:20], repeat=2):
                change = between(given, one, other)
                self.assertEqual(change.size, len(before))
                wanted = [before.index(sign) if sign in before else known[sign] for sign in after]
                self.assertEqual(change.row(), wanted)
                self.assertEqual(done(change, text_of(given, one)), text_of(given, other))

    def test_errors(self):
        self.refuse_each(InvalidHistory, NO_HISTORIES, lambda value: between(value, None, None))
        self.refuse_each(InvalidState, no_states(), lambda value: between(plain(), value, None))
        self.refuse_each(InvalidState, no_states(), lambda value: between(plain(), [], value))


def wanted_deeds(deeds, state, hand, row):
    """The deeds of a change, each made for itself."""
    signs, made = naive.seen(deeds, state), []
    number = max([deed[1][0] for deed in deeds], default=0)
    gone = [sign for at, sign in enumerate(signs) if at not in row]
    while gone:
        number += 1
        made.append(("drop", (number, hand), sorted(gone[:6])))
        gone = gone[6:]
    at = 0
    while at < len(row):
        if isinstance(row[at], int):
            at += 1
            continue
        end = at
        while end < len(row) and isinstance(row[end], str):
            end += 1
        behind = row[end] if end < len(row) else len(signs)
        anchor = signs[:behind][-1] if behind > 0 else None
        while at < end:
            part = "".join(row[at:min(at + 6, end)])
            number += 1
            made.append(("put", (number, hand), anchor, part))
            anchor = (number, hand, len(part) - 1)
            at += len(part)
    return made


class DeedsTest(Case):
    """[73], `deeds_for`"""

    def test_all(self):
        for seed in range(150):
            deeds = random_deeds(seed, seed % 8, drops=3, letters="ab\n")
            given, chance = History(deeds), Random(seed)
            state = chance.choice(naive.states(deeds))
            change = random_change(chance, len(naive.seen(deeds, state)), chance.choice([0, 3, 20]))
            told = deeds_for(given, state, "cy", change)
            self.assertEqual(told, wanted_deeds(deeds, state, "cy", change.row()))
            if len(deeds) + len(told) <= 24:
                more = History(deeds + told)
                shown = text_of(more, sorted(state + [deed[1] for deed in told]))
                self.assertEqual(shown, done(change, text_of(given, state)))

    def test_example(self):
        told = deeds_for(plain(), [(1, "ann"), (2, "bob")], "ann", Change(3, ["p", 1, "q", "r"]))
        self.assertEqual(told, [
            ("drop", (4, "ann"), [(1, "ann", 0), (1, "ann", 1)]), ("put", (5, "ann"), (1, "ann", 0), "p"),
            ("put", (6, "ann"), (1, "ann", 1), "qr"),
        ])

    def test_edges(self):
        self.assertEqual(deeds_for(History([]), [], "a", Change(0, [])), [])
        self.assertEqual(deeds_for(History([]), [], "a", Change(0, ["x"])), [("put", (1, "a"), None, "x")])
        self.assertEqual(deeds_for(plain(), [], "a", Change(0, list("abcdefg"))), [
            ("put", (4, "a"), None, "abcdef"), ("put", (5, "a"), (4, "a", 5), "g")])
        self.assertEqual(deeds_for(plain(), [(1, "ann")], "a", Change(2, [0, 1])), [])
        # The signs of a drop stand in order, though the greater put's come first in the text.
        self.assertEqual(deeds_for(History(heap(3)), whole(History(heap(3))), "b", Change(3, [1])), [
            ("drop", (4, "b"), [(1, "a", 0), (3, "a", 0)])])
        # By the greatest number of the history, not of the state.
        self.assertEqual(deeds_for(plain(), [], "a", Change(0, ["x"]))[0][1], (4, "a"))

    def test_twenty_four(self):
        deeds = chain(2, "abcdef")
        state = [(1, "a"), (2, "a")]
        change = Change(12, ["x"] * 120)
        told = deeds_for(History(deeds), state, "b", change)
        self.assertEqual(len(deeds) + len(told), 24)
        self.assertEqual(told, wanted_deeds(deeds, state, "b", change.row()))
        more = History(deeds + told)
        self.assertEqual(text_of(more, whole(more)), "x" * 120)
        given = History(mixed(10, 1))
        self.assertEqual(len(seen(given, whole(given))), 59)
        told = deeds_for(given, whole(given), "b", Change(59, list("xyzxyzxyz")))
        self.assertEqual([deed[0] for deed in told], ["drop"] * 10 + ["put"] * 2)
        more = History(mixed(10, 1) + told)
        self.assertEqual(text_of(more, whole(more)), "xyzxyzxyz")
        deeds = chain(1, "ab") + [("put", (2 + k, "b"), (1, "a", 0), "c") for k in range(22)]
        told = deeds_for(History(deeds), whole(History(deeds)), "b", Change(24, list(range(24)) + ["d"]))
        self.assertEqual(told, [("put", (24, "b"), (1, "a", 1), "d")])

    def test_great_numbers(self):
        deeds = [("put", (10 ** 17, "a"), None, "ab")]
        told = deeds_for(History(deeds), [(10 ** 17, "a")], "b", Change(2, [0, "c", 1]))
        self.assertEqual(told, [("put", (10 ** 17 + 1, "b"), (10 ** 17, "a", 0), "c")])

    def test_errors(self):
        self.refuse_each(InvalidHistory, NO_HISTORIES, lambda value: deeds_for(value, None, None, None))
        self.refuse_each(InvalidState, no_states(), lambda value: deeds_for(plain(), value, None, None))
        self.refuse_each(InvalidName, NO_NAMES, lambda value: deeds_for(plain(), [], value, None))
        values = NO_CHANGES + [Change(1, []), Change(3, []), Change(0, [])]
        self.refuse_each(InvalidChange, values, lambda value: deeds_for(plain(), [(1, "ann")], "ann", value))

    def test_arguments_stay(self):
        state, change = [(1, "ann")], Change(2, ["x", 0])
        deeds_for(plain(), state, "ann", change)[0][2].append(1)
        self.assertEqual((state, change, plain().deeds()), ([(1, "ann")], Change(2, ["x", 0]), PLAIN))


if __name__ == "__main__":
    unittest.main()
