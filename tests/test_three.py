"""[140], [141]: two changes at once, and three texts."""

import unittest
from itertools import combinations, product
from random import Random

from everrow.changes import Change, between, done, joined
from everrow.errors import InvalidChange, InvalidText
from everrow.history import History
from everrow.states import join, meet
from everrow.three import both, merges, over, rubbing
from tests import naive
from tests.cases import Case
from tests.makers import NO_TEXTS, random_deeds
from tests.test_changes import NO_CHANGES, random_change, rows_of


def stretches_of(change):
    """The lower and the higher number, and the signs, of each stretch, sign by sign."""
    row, found = [-1, *change.row(), change.size], []
    at = 1
    while at < len(row) - 1:
        end = at
        while isinstance(row[end], str):
            end += 1
        if end > at:
            found.append((row[at - 1], row[end], row[at:end]))
        at = end + 1
    return found


def numbers_of(change):
    return [item for item in change.row() if isinstance(item, int)]


def naive_rubbing(one, other):
    return sorted((low, high, least, most) for low, high, _ in stretches_of(one)
                  for least, most, _ in stretches_of(other) if max(low, least) < min(high, most))


def naive_both(one, other):
    """The row of both, made by putting each stretch, the one with the greatest higher number first, into its place."""
    if naive_rubbing(one, other):
        return None
    row = [item for item in numbers_of(one) if item in numbers_of(other)]
    for _, high, signs in sorted(stretches_of(one) + stretches_of(other), key=lambda found: -found[1]):
        # Ahead of all numbers from the higher one on, and of all signs put in so far.
        at = 0
        while at < len(row) and isinstance(row[at], int) and row[at] < high:
            at += 1
        row[at:at] = signs
    return row


class BothTest(Case):
    """[140]"""

    def check(self, one, other):
        wanted = naive_both(one, other)
        self.assertEqual(rubbing(one, other), naive_rubbing(one, other))
        told, left = both(one, other), over(one, other)
        if wanted is None:
            self.assertEqual((told, left), (None, None))
            return False
        self.assertEqual(told, Change(one.size, wanted))
        self.assertEqual(left.size, len(other.row()))
        self.assertEqual(joined(other, left), told)
        # It keeps all of the other one but the numbers that the one has not, and has the signs of the one alone.
        gone = [at for at, item in enumerate(other.row()) if isinstance(item, int) and item not in one.row()]
        self.assertEqual(numbers_of(left), [at for at in range(left.size) if at not in gone])
        self.assertEqual([item for item in left.row() if isinstance(item, str)],
                         [item for item in one.row() if isinstance(item, str)])
        # Whichever is done first, the same comes of both.
        self.assertEqual(both(other, one), told)
        self.assertEqual(joined(one, over(other, one)), told)
        text = ("abcdefghij" * 40)[:one.size]
        self.assertEqual(done(left, done(other, text)), done(told, text))
        return True

    def test_small(self):
        for size in range(4):
            for one, other in product(rows_of(size, 3, "x"), rows_of(size, 3, "y")):
                self.check(Change(size, one), Change(size, other))

    def test_random(self):
        chance, fine = Random(1), 0
        for _ in range(600):
            size = chance.randint(0, 10)
            fine += self.check(random_change(chance, size, 2, "xy"), random_change(chance, size, 2, "yz"))
        self.assertTrue(100 < fine < 500, fine)

    def test_edges(self):
        nothing, keeping = Change(0, []), Change(3, [0, 1, 2])
        self.assertEqual((both(nothing, nothing), over(nothing, nothing), rubbing(nothing, nothing)),
                         (nothing, nothing, []))
        # Texts without a sign have but one gap.
        self.assertEqual(rubbing(Change(0, ["x"]), Change(0, ["y", "z"])), [(-1, 0, -1, 0)])
        self.assertEqual(both(Change(0, ["x"]), nothing), Change(0, ["x"]))
        self.assertEqual(over(Change(0, ["x"]), nothing), Change(0, ["x"]))
        self.assertEqual(over(nothing, Change(0, ["x"])), Change(1, [0]))
        # Rows of only signs.
        self.assertEqual(rubbing(Change(3, ["x"]), Change(3, ["y", "z"])), [(-1, 3, -1, 3)])
        self.assertIsNone(both(Change(3, ["x"]), Change(3, [0, 1, 2, "y"])))
        self.assertEqual(both(Change(3, ["x"]), Change(3, [1])), Change(3, ["x"]))
        self.assertEqual(over(Change(3, ["x"]), Change(3, [1])), Change(1, ["x"]))
        # Stretches at both ends, and the same stretch in both, which rubs with itself.
        first, last = Change(3, ["x", 0, 1, 2]), Change(3, [0, 1, 2, "y"])
        self.assertEqual(both(first, last), Change(3, ["x", 0, 1, 2, "y"]))
        self.assertEqual(over(first, last), Change(4, ["x", 0, 1, 2, 3]))
        self.assertEqual(over(last, first), Change(4, [0, 1, 2, 3, "y"]))
        self.assertEqual(rubbing(first, first), [(-1, 0, -1, 0)])
        self.assertEqual((both(first, first), over(first, first)), (None, None))
        self.assertEqual((both(keeping, keeping), both(keeping, Change(3, []))), (keeping, Change(3, [])))
        # Beside each other is no rubbing: the one with the lesser higher number comes first.
        left, right = Change(3, ["x", 1, 2]), Change(3, [0, "y", 1, 2])
        self.assertEqual(rubbing(left, right), [(-1, 1, 0, 1)])
        self.assertEqual(both(Change(3, ["x", 0, 2]), Change(3, [0, "y", 2])), Change(3, ["x", 0, "y", 2]))
        self.assertEqual(both(Change(2, ["x", 1]), Change(2, [0, 1, "y"])), Change(2, ["x", 1, "y"]))
        self.assertEqual(both(Change(2, ["x", 0]), Change(2, [0, "y"])), Change(2, ["x", 0, "y"]))
        self.assertEqual(both(Change(2, ["x", 0]), Change(2, [0, "y", 1])), Change(2, ["x", 0, "y"]))
        self.assertEqual(both(Change(2, ["x", 0, 1]), Change(2, [1, "y"])), Change(2, ["x", 1, "y"]))

    def test_several_that_rub_stand_in_order(self):
        one, other = Change(4, ["x", 1, "x", 3, "x"]), Change(4, ["y", 2, "y"])
        self.assertEqual(rubbing(one, other), [(-1, 1, -1, 2), (1, 3, -1, 2), (1, 3, 2, 4), (3, 4, 2, 4)])

    def test_long_rows(self):
        chance = Random(2)
        for _ in range(20):
            numbers = sorted(chance.sample(range(400), 100))
            one = Change(400, [item for number in numbers for item in (number, "x")])
            other = Change(400, [item for number in numbers for item in ("y", number)])
            self.check(one, Change(400, numbers[::2]))
            self.check(Change(400, numbers), other)
        ahead, behind = Change(100, ["x"] * 100 + list(range(100))), Change(100, list(range(100)) + ["y"] * 100)
        self.assertEqual(both(ahead, behind), Change(100, ["x"] * 100 + list(range(100)) + ["y"] * 100))

    def test_states(self):
        """From the meet of two states to both of them: both is the change to their join."""
        fine = 0
        for seed in range(30):
            deeds = random_deeds(seed, seed % 7, drops=3)
            given = History(deeds)
            for one, other in product(naive.states(deeds)[:14], repeat=2):
                base = meet(given, one, other)
                told = both(between(given, base, one), between(given, base, other))
                if told is not None:
                    fine += 1
                    self.assertEqual(told, between(given, base, join(given, one, other)))
        self.assertGreater(fine, 1000)

    def test_errors(self):
        some = Change(2, [0, "a"])
        for call in (both, over, rubbing):
            self.refuse_each(InvalidChange, NO_CHANGES, lambda value: call(value, None))
            self.refuse_each(InvalidChange, NO_CHANGES + [Change(1, []), Change(3, [])],
                             lambda value: call(some, value))

    def test_results_are_new(self):
        one, other = Change(3, [0, "x", 1, 2]), Change(3, [0, 1, "y"])
        for call in (lambda: both(one, other).row(), lambda: over(one, other).row(), lambda: rubbing(one, one)):
            before = call()
            call().append(1)
            self.assertEqual(call(), before)
        self.assertEqual((one.row(), other.row()), ([0, "x", 1, 2], [0, 1, "y"]))


def naive_merges(elder, one, other):
    """The texts of all frames that go, gone through one by one."""
    rows = [text.split("\n") for text in (elder, one, other)]
    found = set()
    for many in range(min(len(row) for row in rows) + 1):
        for frame in product(*[combinations(range(len(row)), many) for row in rows]):
            if all(rows[0][i] == rows[1][j] == rows[2][k] for i, j, k in zip(*frame)):
                told = frame_lines(rows, frame)
                if told is not None:
                    found.add("\n".join(told))
    return sorted(found)


def frame_lines(rows, frame):
    """The lines that a frame tells, given as three tuples of numbers, or None."""
    lines = []
    begins = [[0] + [at + 1 for at in numbers] for numbers in frame]
    ends = [list(numbers) + [len(row)] for numbers, row in zip(frame, rows)]
    for place in range(len(frame[0]) + 1):
        elder, one, other = [row[begin[place]:end[place]] for row, begin, end in zip(rows, begins, ends)]
        if elder != one and elder != other and one != other:
            return None
        lines += other if elder == one else one
        if place < len(frame[0]):
            lines.append(rows[0][frame[0][place]])
    return lines


class MergesTest(Case):
    """[141]"""

    def test_random(self):
        chance, sizes = Random(3), {}
        for _ in range(400):
            letters = chance.choice([["a", "b"], ["a", "b", "c"], ["a", "", " ", "bc"]])
            texts = ["\n".join(chance.choice(letters) for _ in range(chance.randint(1, 4))) for _ in range(3)]
            if chance.random() < 0.5:
                texts[1] = texts[0] + "\n" + texts[1].split("\n")[0]
            told = merges(*texts)
            self.assertEqual(told, naive_merges(*texts), texts)
            sizes[len(told)] = sizes.get(len(told), 0) + 1
        self.assertTrue(all(sizes.get(size, 0) > 5 for size in range(4)), sizes)

    def test_five_lines(self):
        chance = Random(4)
        for _ in range(12):
            texts = ["\n".join(chance.choice(["a", "b", ""]) for _ in range(5)) for _ in range(3)]
            self.assertEqual(merges(*texts), naive_merges(*texts))
        same = "a\nb\nc\nd\ne"
        self.assertEqual(merges(same, same, same), [same])
        self.assertEqual(merges(same, "a\nB\nc\nd\ne".lower(), "a\nb\nc\nx\ne"), ["a\nb\nc\nx\ne"])
        self.assertEqual(merges(same, "a\nx\nc\nd\ne", "a\nb\nc\ny\ne"), ["a\nx\nc\ny\ne"])
        equal = "\n" * 4
        self.assertEqual(merges(equal, equal, equal), naive_merges(equal, equal, equal))

    def test_edges(self):
        self.assertEqual(merges("", "", ""), [""])
        self.assertEqual(merges("", "a", ""), ["a"])
        self.assertEqual(merges("", "", "a"), ["a"])
        self.assertEqual(merges("", "a", "a"), ["a"])
        self.assertEqual(merges("a", "b", "c"), [])
        self.assertEqual(merges("a\nb", "b", "a"), [])
        self.assertEqual(merges("a\n\nb", "\nb", "a\n"), [""])
        # An equal text tells nothing new, wherever it stands.
        for text, other in (("a\nb", "a"), ("", "a\n"), ("a\nb\na", "a\nc")):
            self.assertIn(other, merges(text, text, other))
            self.assertIn(other, merges(text, other, text))
            self.assertIn(other, merges(text, other, other))
        # Several frames that go can tell several texts.
        self.assertEqual(merges("a", "a\na", "a\na"), naive_merges("a", "a\na", "a\na"))
        self.assertEqual(merges("a", "a\na", "a\na"), ["a\na", "a\na\na"])

    def test_errors(self):
        wrong = NO_TEXTS + ["a\n" * 5, "\n" * 5]
        self.refuse_each(InvalidText, wrong, lambda value: merges(value, None, None))
        self.refuse_each(InvalidText, wrong, lambda value: merges("a", value, None))
        self.refuse_each(InvalidText, wrong, lambda value: merges("a", "a", value))

    def test_results_are_new(self):
        merges("a", "a", "a").clear()
        self.assertEqual(merges("a", "a", "a"), ["a"])


if __name__ == "__main__":
    unittest.main()
