"""[100] to [104]: what a screen shows."""

import unittest
from itertools import combinations, product
from random import Random

from everrow.display import (
    ends_alike, least_width, pieces, place_at, screen, scrolled, smooth, spot, stepped, widths,
)
from everrow.errors import InvalidList, InvalidNumber, InvalidText
from tests.cases import Case
from tests.makers import NO_LISTS, NO_NUMBERS, NO_TEXTS

NO_LINES = NO_TEXTS + ["\n", "a\nb"]
NO_WIDTHS = NO_NUMBERS + [0, -1]
TEXT = "ab cde f\n\nabcdefg h"


def chunks(line):
    """The chunks of a line, one sign at a time."""
    found, word = [], ""
    for sign in line:
        if sign != " ":
            word += sign
        else:
            found.append(word + sign)
            word = ""
    return found + [word] if word else found


def cuttings(line):
    """All ways of cutting a line between chunks, as lists of lists of chunks."""
    parts = chunks(line)
    for size in range(len(parts)):
        for gaps in combinations(range(1, len(parts)), size):
            ends = [0, *gaps, len(parts)]
            yield [parts[begin:end] for begin, end in zip(ends, ends[1:])]


def allowed(way, width):
    return all(len(row) == 1 or len("".join(row)) <= width for row in way)


def naive_pieces(line, width):
    found = []
    for chunk in chunks(line):
        if found and len(found[-1]) + len(chunk) <= width:
            found[-1] += chunk
        else:
            found.append(chunk)
    return found or [""]


def naive_rows(text, width, hidden=()):
    rows = []
    for number, line in enumerate(text.split("\n")):
        if number not in hidden:
            start = 0
            for piece in naive_pieces(line, width):
                rows.append((number, start, piece))
                start += len(piece)
    return rows


def random_line(chance, most):
    return "".join(chance.choice("ab  c") for _ in range(chance.randint(0, most)))


def random_text(chance, most=30):
    return "".join(chance.choice("abc  \n") for _ in range(chance.randint(0, most)))


class PiecesTest(Case):
    """[100]"""

    def test_all(self):
        for line in ["".join(row) for size in range(9) for row in product("a ", repeat=size)]:
            self.assertEqual("".join(chunks(line)), line)
            counts = []
            for width in range(1, 10):
                told = pieces(line, width)
                self.assertEqual(told, naive_pieces(line, width))
                self.assertEqual("".join(told), line)
                counts.append(len(told))
                ways = [way for way in cuttings(line) if allowed(way, width)]
                if line:
                    self.assertIn(told, [["".join(row) for row in way] for way in ways])
                    self.assertEqual(len(told), min(len(way) for way in ways))
            self.assertEqual(counts, sorted(counts, reverse=True))

    def test_edges(self):
        self.assertEqual(pieces("", 1), [""])
        self.assertEqual(pieces("", 10 ** 18), [""])
        self.assertEqual(pieces("   ", 1), [" ", " ", " "])
        self.assertEqual(pieces("   ", 2), ["  ", " "])
        self.assertEqual(pieces("abc", 1), ["abc"])
        self.assertEqual(pieces("a b", 1), ["a ", "b"])
        self.assertEqual(pieces("abcdef gh", 3), ["abcdef ", "gh"])
        self.assertEqual(pieces("a abcdef gh", 3), ["a ", "abcdef ", "gh"])
        # The blank behind a word belongs to its chunk, so "ab " has three signs.
        self.assertEqual(pieces("ab cd", 5), ["ab cd"])
        self.assertEqual(pieces("ab cd ", 5), ["ab ", "cd "])
        self.assertEqual(pieces(" ab", 2), [" ", "ab"])
        self.assertEqual(pieces("ab  c", 3), ["ab ", " c"])
        self.assertEqual(pieces("a" * 200, 199), ["a" * 200])

    def test_errors(self):
        self.refuse_each(InvalidText, NO_LINES, lambda value: pieces(value, None))
        self.refuse_each(InvalidNumber, NO_WIDTHS, lambda value: pieces("a", value))


class ScreenTest(Case):
    """[101]"""

    def are_folds(self, folds):
        """Whether two of each fit together, as the point says it."""
        for one, other in combinations(folds, 2):
            first, second = [set(range(fold[0], fold[1] + 1)) for fold in (one, other)]
            inner = all(other[0] < line <= other[1] for line in first)
            outer = all(one[0] < line <= one[1] for line in second)
            if first & second and not inner and not outer:
                return False
        return True

    def test_without_folds(self):
        chance = Random(1)
        for _ in range(300):
            text = random_text(chance)
            for width in (1, 2, 3, 7, 40):
                wanted = naive_rows(text, width)
                self.assertEqual(screen(text, width), wanted)
                self.assertEqual(screen(text, width, None), wanted)
                self.assertEqual(screen(text, width, []), wanted)
                self.assertEqual("".join(piece for _, _, piece in wanted), text.replace("\n", ""))

    def test_all_folds(self):
        text, all_folds = "a b\nc\n\nd e\nf", list(combinations(range(5), 2))
        fine = wrong = 0
        for size in range(4):
            for folds in product(all_folds, repeat=size):
                folds = list(folds)
                if self.are_folds(folds):
                    hidden = {line for first, last in folds for line in range(first + 1, last + 1)}
                    self.assertEqual(screen(text, 2, folds), naive_rows(text, 2, hidden))
                    fine += 1
                else:
                    with self.assertRaises(InvalidList):
                        screen(text, 2, folds)
                    wrong += 1
        self.assertTrue(fine > 60 and wrong > 500)

    def test_edges(self):
        text = "a\nb\nc\nd"
        self.assertEqual(screen(text, 1, [(0, 3)]), [(0, 0, "a")])
        self.assertEqual(screen(text, 1, [(0, 3), (1, 3), (2, 3)]), [(0, 0, "a")])
        self.assertEqual(screen(text, 1, [(2, 3), (0, 1)]), [(0, 0, "a"), (2, 0, "c")])
        self.assertEqual(screen("", 1), [(0, 0, "")])
        self.assertEqual(screen("\n" * 200, 1, [(0, 200)]), [(0, 0, "")])
        self.assertEqual(len(screen("\n" * 200, 1)), 201)
        many = [(line, 200) for line in range(200)]
        self.assertEqual(screen("\n" * 200, 1, many[::-1]), [(0, 0, "")])

    def test_errors(self):
        self.refuse_each(InvalidText, NO_TEXTS, lambda value: screen(value, None, 0))
        self.refuse_each(InvalidNumber, NO_WIDTHS, lambda value: screen(TEXT, value, 0))
        values = [value for value in NO_LISTS if value is not None] + [
            [None], [(0,)], [(0, 1, 2)], [[0, 1]], [(0, 0)], [(1, 0)], [(-1, 1)], [(-2, 1)], [(0, 3)], [(0, 1), (0, 1)],
            [(0, 1), (0, 2)], [(0, 1), (1, 2)], [(0, True)], [(False, 1)], [("0", 1)], [(0, None)], ((0, 1),),
            [(0, 1), 5], [(0, 2), (0, 2)], [True],
        ]
        self.refuse_each(InvalidList, values, lambda value: screen(TEXT, 5, value))
        self.refuse_each(InvalidList, [[(0, 1)]], lambda value: screen("a", 5, value))

    def test_lists_stay(self):
        folds = [(0, 1)]
        screen(TEXT, 5, folds).append(1)
        self.assertEqual((folds, screen(TEXT, 5, folds)), ([(0, 1)], naive_rows(TEXT, 5, [1])))


class PlacesTest(Case):
    """[102]"""

    def spots(self, text, width):
        """For each place of a text its row and its column."""
        found, rows = [], naive_rows(text, width)
        for number, (line, _, piece) in enumerate(rows):
            is_last = number + 1 == len(rows) or rows[number + 1][0] != line
            found += [(number, column) for column in range(len(piece) + is_last)]
        return found

    def test_all(self):
        chance = Random(2)
        for _ in range(200):
            text = random_text(chance, 20)
            for width in (1, 2, 4, 30):
                spots = self.spots(text, width)
                self.assertEqual(len(spots), len(text) + 1)
                self.assertEqual([spot(text, width, place) for place in range(len(text) + 1)], spots)
                rows = len(naive_rows(text, width))
                for row in range(rows):
                    for column in (0, 1, 2, 3, 9):
                        self.assertEqual(place_at(text, width, row, column), self.place(spots, row, column))
                place = chance.randint(0, len(text))
                for more in (-10 ** 18, -2, -1, 0, 1, 3, 10 ** 18):
                    row = min(max(spots[place][0] + more, 0), rows - 1)
                    for column in (0, 2, 9):
                        told = stepped(text, width, place, more, column)
                        self.assertEqual(told, self.place(spots, row, column))

    def place(self, spots, row, column):
        return spots.index((row, column)) if (row, column) in spots else max(
            place for place, told in enumerate(spots) if told[0] == row)

    def test_edges(self):
        # The end of a row that is not the last one of its line is the beginning of the next one.
        self.assertEqual([spot("ab cd", 3, place) for place in (2, 3, 5)], [(0, 2), (1, 0), (1, 2)])
        self.assertEqual(place_at("ab cd", 3, 0, 3), 2)
        self.assertEqual(place_at("ab cd", 3, 1, 2), 5)
        self.assertEqual(place_at("ab cd", 3, 1, 10 ** 18), 5)
        self.assertEqual([spot("\n\n", 1, place) for place in range(3)], [(0, 0), (1, 0), (2, 0)])
        self.assertEqual(place_at("\n\n", 1, 1, 5), 1)
        self.assertEqual(spot("", 1, 0), (0, 0))
        self.assertEqual(place_at("", 1, 0, 7), 0)
        self.assertEqual(stepped("", 1, 0, 5, 5), 0)
        self.assertEqual(stepped("ab\ncd\nef", 9, 4, -9, 1), 1)
        self.assertEqual(stepped("ab\ncd\nef", 9, 4, 9, 1), 7)
        self.assertEqual(spot("   ", 1, 3), (2, 1))
        self.assertEqual(spot("abcdef g", 3, 6), (0, 6))

    def test_errors(self):
        for call in (lambda text, width: spot(text, width, None), lambda text, width: place_at(text, width, None, None),
                     lambda text, width: stepped(text, width, None, None, None)):
            self.refuse_each(InvalidText, NO_TEXTS, lambda value: call(value, None))
            self.refuse_each(InvalidNumber, NO_WIDTHS, lambda value: call("ab", value))
        places, columns = NO_NUMBERS + [-1, 3], NO_NUMBERS + [-1]
        self.refuse_each(InvalidNumber, places, lambda value: spot("ab", 1, value))
        self.refuse_each(InvalidNumber, NO_NUMBERS + [-1, 2], lambda value: place_at("a b", 2, value, None))
        self.refuse_each(InvalidNumber, columns, lambda value: place_at("a b", 2, 1, value))
        self.refuse_each(InvalidNumber, places, lambda value: stepped("ab", 1, value, None, None))
        self.refuse_each(InvalidNumber, NO_NUMBERS, lambda value: stepped("ab", 1, 2, value, None))
        self.refuse_each(InvalidNumber, columns, lambda value: stepped("ab", 1, 2, 0, value))


class WidthsTest(Case):
    """[103]"""

    def test_widths(self):
        chance = Random(3)
        for _ in range(200):
            text = random_text(chance, 24)
            counts = [len(naive_rows(text, width)) for width in range(1, 40)]
            self.assertEqual(counts, sorted(counts, reverse=True))
            self.assertEqual(widths(text), [width for width in range(2, 40) if counts[width - 1] < counts[width - 2]])
            for height in range(1, 14):
                wanted = next((width for width in range(1, 40) if counts[width - 1] <= height), None)
                self.assertEqual(least_width(text, height), wanted)

    def test_edges(self):
        self.assertEqual((widths(""), least_width("", 1)), ([], 1))
        self.assertEqual((widths("a" * 200), least_width("a" * 200, 1)), ([], 1))
        self.assertIsNone(least_width("\n", 1))
        self.assertEqual(least_width("\n", 2), 1)
        self.assertEqual(least_width("a\nb", 10 ** 18), 1)
        self.assertEqual(least_width("a " * 100, 1), 200)
        self.assertEqual(widths("   "), [2, 3])
        self.assertEqual(widths("ab cd"), [5])
        self.assertEqual(widths("a b\n a b"), [3, 4])

    def test_smooth(self):
        for line in ["".join(row) for size in range(8) for row in product("a ", repeat=size)] + [
                "aa b ccc dd e", "aaaa b c dddd e", "a  bb   cc  d"]:
            for width in (1, 2, 3, 4, 6, 9, 20):
                roughness, starts = smooth(line, width)
                ways = [way for way in cuttings(line) if allowed(way, width)]
                if not line:
                    self.assertEqual((roughness, starts), (0, [0]))
                    continue
                rows = {tuple(self.starts(way)): self.roughness(way, width) for way in ways}
                self.assertEqual(rows[tuple(starts)], roughness)
                self.assertEqual(roughness, min(rows.values()))

    def starts(self, way):
        lengths = [len("".join(row)) for row in way]
        return [sum(lengths[:at]) for at in range(len(way))]

    def roughness(self, way, width):
        return sum(max(0, width - len("".join(row))) ** 2 for row in way[:-1])

    def test_smooth_edges(self):
        self.assertEqual(smooth("", 10 ** 18), (0, [0]))
        self.assertEqual(smooth("abc", 1), (0, [0]))
        self.assertEqual(smooth("abcdef g", 3), (0, [0, 7]))
        # Filling the first row as far as it goes would leave the second one almost empty.
        self.assertEqual(smooth("a b cccc d", 5)[0], 1)
        self.assertEqual(smooth("aaa bb cc ddddd", 7), (9 + 1, [0, 4, 10]))
        self.assertEqual(len(pieces("aaa bb cc ddddd", 7)), 3)
        self.assertEqual(smooth("a " * 100, 200), (0, [0]))
        self.assertEqual(smooth(" " * 200, 1), (0, list(range(200))))

    def test_errors(self):
        for call in (lambda value: least_width(value, None), widths):
            self.refuse_each(InvalidText, NO_TEXTS, call)
        self.refuse_each(InvalidNumber, NO_NUMBERS + [0, -1], lambda value: least_width("a", value))
        self.refuse_each(InvalidText, NO_LINES, lambda value: smooth(value, None))
        self.refuse_each(InvalidNumber, NO_WIDTHS, lambda value: smooth("a", value))


class ScrolledTest(Case):
    """[104]"""

    def test_scrolled(self):
        for rows in range(1, 8):
            for height in range(1, 10):
                shown = min(height, rows)
                for top, row in product(range(rows), repeat=2):
                    fitting = [first for first in range(rows - shown + 1) if first <= row < first + shown]
                    wanted = min(fitting, key=lambda first: abs(first - top))
                    self.assertEqual(scrolled(rows, top, height, row), wanted)

    def test_edges(self):
        far = 10 ** 18
        self.assertEqual(scrolled(1, 0, far, 0), 0)
        self.assertEqual(scrolled(far, 0, 1, far - 1), far - 1)
        self.assertEqual(scrolled(far, far - 1, 3, far - 1), far - 3)
        self.assertEqual(scrolled(far, 5, 3, 0), 0)

    def test_scrolled_errors(self):
        for value in NO_NUMBERS + [0, -1]:
            self.refuse(InvalidNumber, value, scrolled, value, None, None, None)
            self.refuse(InvalidNumber, value, scrolled, 5, 0, value, None)
        for value in NO_NUMBERS + [-1, 5]:
            self.refuse(InvalidNumber, value, scrolled, 5, value, 0, None)
            self.refuse(InvalidNumber, value, scrolled, 5, 4, 1, value)

    def test_ends_alike(self):
        chance = Random(4)
        for _ in range(300):
            one, other = random_line(chance, 12), random_line(chance, 12)
            if chance.randrange(2):
                other = chance.choice(["", "a ", "b a  "]) + one[chance.randint(0, 3):]
            for width in (1, 2, 4, 9):
                first, second = naive_pieces(one, width), naive_pieces(other, width)
                many = 0
                while many < min(len(first), len(second)) and first[-many - 1:] == second[-many - 1:]:
                    many += 1
                self.assertEqual(ends_alike(one, other, width), many)
        self.assertEqual(ends_alike("", "", 3), 1)
        self.assertEqual(ends_alike("", "a", 3), 0)
        self.assertEqual(ends_alike("a b c", "a b c", 1), 3)

    def test_ends_alike_errors(self):
        self.refuse_each(InvalidText, NO_LINES, lambda value: ends_alike(value, None, None))
        self.refuse_each(InvalidText, NO_LINES, lambda value: ends_alike("a", value, None))
        self.refuse_each(InvalidNumber, NO_WIDTHS, lambda value: ends_alike("a", "b", value))


if __name__ == "__main__":
    unittest.main()
