"""[150] to [152]: outlines."""

import unittest
from itertools import product
from random import Random

from everrow.changes import done
from everrow.errors import InvalidItem, InvalidList, InvalidNumber, InvalidText
from everrow.outlines import (
    deeper, fewest_in, flatter, how_many_outlines, is_outline, outline_at, shift_change, shifted, steeper,
    unlike_outline,
)
from tests.cases import Case
from tests.makers import NO_LISTS, NO_NUMBERS, NO_TEXTS

NO_OUTLINES = NO_TEXTS + [" ", " a", "a\n  b", "\n  ", "a\n b\n   c", "a\n b\n\n  c", "\n\n \n  \n    "]
NO_SHIFTS = [
    None, True, 0, "in", [], (), ("in",), ("in", True), ("in", -1), ("in", "1"), ("in", None), ("in", 1, 1), ["in", 1],
    ("In", 1), ("up", 1), (1, "in"), (None, 1), (["in"], 1), ("in", [1]), {}, ("out", False),
]
# The most outlines of so many lines that there are.
CATALAN = [1, 1, 2, 5, 14, 42, 132, 429]


def depth_rows(many):
    """The lists of the depths of all outlines of so many lines, in order, picked from all lists of numbers."""
    return [list(row) for row in product(range(many), repeat=many)
            if row[0] == 0 and all(row[at] <= row[at - 1] + 1 for at in range(1, many))]


def outline(depths, words=None):
    return "\n".join(" " * depth + word for depth, word in zip(depths, words or [""] * len(depths)))


def depths(text):
    return [len(line) - len(line.lstrip(" ")) for line in text.split("\n")]


def below(row, line):
    """The numbers of the lines below a line."""
    found = []
    for other in range(line + 1, len(row)):
        if row[other] <= row[line]:
            break
        found.append(other)
    return found


def shift(row, word, line):
    """What one shift makes of a list of depths, as [150] tells it."""
    row = list(row)
    if line >= len(row):
        return row
    branch = [line] + below(row, line)
    if word == "in" and line > 0 and row[line] <= row[line - 1]:
        return [depth + 1 if at in branch else depth for at, depth in enumerate(row)]
    if word == "out" and row[line] > 0:
        return [depth - 1 if at in branch else depth for at, depth in enumerate(row)]
    return row


def shift_all(row, shifts):
    for word, line in shifts:
        row = shift(row, word, line)
    return row


def reached(many):
    """For each outline of so many lines the numbers of shifts "in" that lead to each one that it can become."""
    found = {}
    for start in depth_rows(many):
        steps = {tuple(start): 0}
        coming = [tuple(start)]
        for row in coming:
            for line in range(many):
                more = tuple(shift(row, "in", line))
                if more not in steps:
                    steps[more] = steps[row] + 1
                    coming.append(more)
        found[tuple(start)] = steps
    return found


def random_outline(chance, many):
    row = [0]
    for _ in range(many - 1):
        row.append(chance.randint(0, row[-1] + 1))
    return row


class ShiftsTest(Case):
    """[150]"""

    def test_is_outline(self):
        for many in range(1, 5):
            for row in product(range(4), repeat=many):
                for words in (["a b"] * many, [""] * many):
                    self.assertIs(is_outline(outline(row, words)), list(row) in depth_rows(many))
        self.assertIs(is_outline(""), True)
        self.assertIs(is_outline("\n".join(" " * depth for depth in range(19))), True)
        for value in NO_OUTLINES:
            self.assertIs(is_outline(value), False)

    def test_single_shifts(self):
        for many in range(1, 6):
            words = ["a", "", "b c", "d ", "ef"][:many]
            for row in depth_rows(many):
                text = outline(row, words)
                for word, line in product(("in", "out"), range(many + 2)):
                    wanted = outline(shift(row, word, line), words)
                    self.assertEqual(shifted(text, [(word, line)]), wanted)
                    self.assertTrue(is_outline(wanted))
                    self.check_change(text, (word, line), wanted)

    def check_change(self, text, one, wanted):
        change = shift_change(text, one)
        self.assertEqual((change.size, done(change, text)), (len(text), wanted))
        numbers = [item for item in change.row() if isinstance(item, int)]
        gone = [at for at in range(len(text)) if at not in numbers]
        # What goes is the first blank of a line, what comes is a blank ahead of all that was there.
        self.assertTrue(all(text[at] == " " and (at == 0 or text[at - 1] == "\n") for at in gone))
        come = [at for at, item in enumerate(change.row()) if isinstance(item, str)]
        self.assertTrue(all(wanted[at] == " " and wanted[at - 1] == "\n" for at in come))
        self.assertTrue(len(gone) == 0 or len(come) == 0)

    def test_many_shifts(self):
        chance = Random(1)
        for _ in range(300):
            row = random_outline(chance, chance.randint(1, 19))
            shifts = [(chance.choice(["in", "in", "out"]), chance.randint(0, 20)) for _ in range(chance.randint(0, 12))]
            words = [chance.choice(["", "a", "b c"]) for _ in row]
            self.assertEqual(shifted(outline(row, words), shifts), outline(shift_all(row, shifts), words))

    def test_edges(self):
        for text in ("", "a"):
            for one in (("in", 0), ("out", 0), ("in", 1), ("out", 7), ("in", 10 ** 30)):
                self.assertEqual(shifted(text, [one]), text)
                self.assertEqual(shift_change(text, one).row(), list(range(len(text))))
        self.assertEqual(shifted("a\nb", []), "a\nb")
        self.assertEqual(shifted("a\nb\nc", [("in", 1)] * 3 + [("in", 2)] * 3), "a\n b\n  c")
        # A branch to the end, and one that other lines follow.
        self.assertEqual(shifted("a\nb\n c\n d", [("in", 1)]), "a\n b\n  c\n  d")
        self.assertEqual(shifted("a\nb\n c\nd", [("in", 1)]), "a\n b\n  c\nd")
        self.assertEqual(shifted("a\n b\n  c\n d", [("out", 1)]), "a\nb\n c\n d")
        self.assertEqual(shift_change("a\nb\n c", ("in", 1)).row(), [0, 1, " ", 2, 3, " ", 4, 5])
        self.assertEqual(shift_change("a\n b\n  c", ("out", 1)).row(), [0, 1, 3, 4, 6, 7])
        self.assertEqual(shift_change("\n \n", ("out", 1)).row(), [0, 2])

    def test_errors(self):
        for call in (shifted, shift_change):
            self.refuse_each(InvalidText, NO_OUTLINES, lambda value: call(value, None))
        self.refuse_each(InvalidList, NO_LISTS + [(("in", 1),)], lambda value: shifted("a", value))
        self.refuse_each(InvalidItem, NO_SHIFTS, lambda value: shifted("a", [("in", 9), value, None]))
        self.refuse_each(InvalidItem, NO_SHIFTS, lambda value: shift_change("a", value))


class KinTest(Case):
    """[151]"""

    def test_all_of_few_lines(self):
        for many in range(1, 6):
            words = ["a", "b", "", "c d", "a"][:many]
            steps = reached(many)
            rows = depth_rows(many)
            self.assertEqual(len(rows), CATALAN[many])
            for one, other in product(rows, repeat=2):
                self.check(one, other, words, steps, rows)

    def check(self, one, other, words, steps, rows):
        first, second = outline(one, words), outline(other, words)
        is_deeper = tuple(other) in steps[tuple(one)]
        self.assertIs(deeper(first, second), is_deeper)
        self.assertEqual(is_deeper, all(set(below(one, line)) <= set(below(other, line)) for line in range(len(one))))
        told = fewest_in(first, second)
        if is_deeper:
            self.assertTrue(all(word == "in" for word, _ in told))
            self.assertEqual(len(told), steps[tuple(one)][tuple(other)])
            self.assertEqual(shifted(first, told), second)
        else:
            self.assertIsNone(told)
        sources = [row for row in rows if {tuple(one), tuple(other)} <= set(steps[tuple(row)])]
        top = [row for row in sources if all(tuple(row) in steps[tuple(source)] for source in sources)]
        self.assertEqual([flatter(first, second)], [outline(row, words) for row in top])
        ends = [row for row in rows if tuple(row) in steps[tuple(one)] and tuple(row) in steps[tuple(other)]]
        least = [row for row in ends if all(tuple(end) in steps[tuple(row)] for end in ends)]
        self.assertEqual([steeper(first, second)], [outline(row, words) for row in least])
        amid = [row for row in rows if tuple(row) in steps[tuple(one)] and tuple(other) in steps[tuple(row)]]
        self.assertEqual(how_many_outlines(first, second), len(amid))
        self.assertEqual([outline_at(first, second, at) for at in range(len(amid))],
                         [outline(row, words) for row in amid])

    def test_six_and_seven_lines(self):
        chance = Random(2)
        for many, times in ((6, 400), (7, 60)):
            steps = reached(many) if many == 6 else {}
            rows = depth_rows(many)
            for _ in range(times):
                one, other = chance.choice(rows), chance.choice(rows)
                if many == 6:
                    self.check(one, other, [""] * many, steps, rows)
                low, high = flatter(outline(one), outline(other)), steeper(outline(one), outline(other))
                for text in (outline(one), outline(other)):
                    self.assertTrue(deeper(low, text) and deeper(text, high))
                self.assertEqual(shifted(low, fewest_in(low, high)), high)
                many_amid = how_many_outlines(low, high)
                at = chance.randrange(many_amid)
                told = outline_at(low, high, at)
                self.assertTrue(deeper(low, told) and deeper(told, high))
                if at + 1 < many_amid:
                    self.assertLess(depths(told), depths(outline_at(low, high, at + 1)))

    def test_nineteen_lines(self):
        flat, steep = outline([0] * 19), outline(range(19))
        self.assertEqual(how_many_outlines(flat, steep), 1767263190)
        self.assertEqual(how_many_outlines(steep, flat), 0)
        self.assertEqual(how_many_outlines(flat, flat), 1)
        self.assertEqual((outline_at(flat, steep, 0), outline_at(flat, steep, 1767263189)), (flat, steep))
        self.assertEqual(depths(outline_at(flat, steep, 1)), [0] * 18 + [1])
        self.assertEqual(fewest_in(flat, steep), [("in", line) for line in range(18, 0, -1)])
        self.assertEqual((fewest_in(steep, flat), fewest_in(steep, steep)), (None, []))
        self.assertEqual((flatter(flat, steep), steeper(flat, steep)), (flat, steep))
        chance = Random(3)
        for _ in range(60):
            one, other = outline(random_outline(chance, 19)), outline(random_outline(chance, 19))
            low, high = flatter(one, other), steeper(one, other)
            self.assertEqual(shifted(one, fewest_in(one, high)), high)
            self.assertEqual(shifted(low, fewest_in(low, other)), other)
            number = chance.randrange(how_many_outlines(low, high))
            told = outline_at(low, high, number)
            # The number of an outline is how many there are ahead of it: those up to it, told by halving.
            least, most = 0, how_many_outlines(low, high) - 1
            while least < most:
                middle = (least + most) // 2
                if depths(outline_at(low, high, middle)) < depths(told):
                    least = middle + 1
                else:
                    most = middle
            self.assertEqual(least, number)

    def test_one_line(self):
        for text in ("", "a", "b c"):
            self.assertTrue(deeper(text, text))
            self.assertEqual((fewest_in(text, text), flatter(text, text), steeper(text, text)), ([], text, text))
            self.assertEqual((how_many_outlines(text, text), outline_at(text, text, 0)), (1, text))

    def test_errors(self):
        some = "a\n b"
        unkin = ["a", "a\nc", "b\na", "a\nb\n", "a\n\n", "a \nb", "ab", "", "a\nb b"]
        for call in (deeper, fewest_in, flatter, steeper, how_many_outlines,
                     lambda one, other: outline_at(one, other, None)):
            self.refuse_each(InvalidText, NO_OUTLINES, lambda value: call(value, None))
            self.refuse_each(InvalidText, NO_OUTLINES + unkin, lambda value: call(some, value))
        self.refuse_each(InvalidNumber, NO_NUMBERS + [-1, 2], lambda value: outline_at("a\nb", some, value))
        # Nothing comes so out of the one such that the other one comes out of it.
        self.refuse_each(InvalidNumber, [0, -1, None], lambda value: outline_at(some, "a\nb", value))

    def test_lists_are_new(self):
        fewest_in("\n", "\n ").clear()
        self.assertEqual(fewest_in("\n", "\n "), [("in", 1)])


class UnlikeTest(Case):
    """[152]"""

    def naive(self, one, other, most):
        for many in range(1, most + 1):
            for row in depth_rows(many):
                if shift_all(row, one) != shift_all(row, other):
                    return many
        return None

    def check(self, one, other, most):
        told = unlike_outline(one, other)
        wanted = self.naive(one, other, most)
        self.assertEqual(None if told is None else told.count("\n") + 1, wanted, (one, other))
        if told is not None:
            self.assertTrue(is_outline(told) and not told.strip(" \n"))
            self.assertNotEqual(shifted(told, one), shifted(told, other))
        return wanted

    def test_random(self):
        chance, found = Random(4), {}
        for _ in range(300):
            one = [(chance.choice(["in", "out"]), chance.randint(0, 3)) for _ in range(chance.randint(0, 4))]
            other = [(chance.choice(["in", "out"]), chance.randint(0, 3)) for _ in range(chance.randint(0, 4))]
            if chance.random() < 0.6:
                at = chance.randint(0, len(one))
                other = one[:at] + chance.choice([[("in", 0)], [("out", 0)], one[at:at + 1]]) + one[at:]
            wanted = self.check(one, other, 6)
            found[wanted] = found.get(wanted, 0) + 1
        # Two lines more than the greatest number are enough: the check looks one line farther.
        self.assertTrue(all(found.get(many, 0) > 5 for many in (None, 2, 3, 4)), found)

    def test_up_to_six(self):
        self.assertIsNone(unlike_outline([("in", 6)] * 12, [("in", 6)] * 12))
        told = unlike_outline([("in", 6)] * 5, [("in", 6)] * 6)
        self.assertEqual(told.count("\n"), 6)
        self.assertNotEqual(shifted(told, [("in", 6)] * 5), shifted(told, [("in", 6)] * 6))
        self.assertIsNone(unlike_outline([("in", 6)] * 6, [("in", 6)] * 7))
        self.check([("in", 4), ("out", 4)], [], 7)
        self.check([("in", 2), ("in", 1)], [("in", 1), ("in", 2)], 6)

    def test_one_line_behind_all_that_are_named(self):
        # Up to the named line they do the same, but what comes behind it is not below it any more.
        self.assertEqual(self.check([("out", 1), ("in", 1)], [("in", 1)], 5), 3)
        deep = [("in", 2)] * 2
        self.assertEqual(self.check(deep + [("out", 2), ("in", 2)], deep, 6), 4)
        deep = [("in", 6)] * 6
        told = unlike_outline(deep + [("out", 6), ("in", 6)], deep)
        self.assertEqual(told.count("\n"), 7)
        self.assertNotEqual(shifted(told, deep + [("out", 6), ("in", 6)]), shifted(told, deep))
        self.check([("out", 1), ("in", 1)], [("in", 1), ("out", 1)], 5)
        self.check([("out", 2), ("in", 2)], [], 6)

    def test_edges(self):
        self.assertIsNone(unlike_outline([], []))
        self.assertIsNone(unlike_outline([("in", 0)], []))
        self.assertIsNone(unlike_outline([("out", 0)] * 9, [("in", 0)]))
        self.assertEqual(unlike_outline([("in", 1)], []), "\n")
        self.assertEqual(unlike_outline([], [("out", 1)]), "\n ")

    def test_errors(self):
        for call in (lambda value: unlike_outline(value, None), lambda value: unlike_outline([], value)):
            self.refuse_each(InvalidList, NO_LISTS, call)
        self.refuse_each(InvalidItem, NO_SHIFTS, lambda value: unlike_outline([("in", 1), value, None], None))
        self.refuse_each(InvalidItem, NO_SHIFTS, lambda value: unlike_outline([], [("in", 1), value, None]))


if __name__ == "__main__":
    unittest.main()
