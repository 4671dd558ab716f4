"""[210] to [213]: windows."""

import unittest
from fractions import Fraction
from itertools import combinations, product
from random import Random

from everrow.display import screen, spot
from everrow.errors import InvalidItem, InvalidLayout, InvalidList, InvalidNumber, InvalidText
from everrow.windows import covering, least_room, rooms, scattered, settling, unlike_size
from tests.cases import Case
from tests.makers import NO_LISTS, NO_NUMBERS, NO_TEXTS, plain

PAIR = ("across", [(1, "a"), (1, "b")])
DEEP = ("across", [(1, ("down", [(1, ("across", [(1, ("down", [(1, "a"), (2, "b")])), (1, "c")])), (1, "d")])),
                   (1, "e")])
NO_NAMES = ["", "A", "a b", "abcdefghi", "\u00e4", "a\n"]


def part(layout):
    """A layout of two windows with a part in it."""
    return ("across", [(1, layout), (1, "zz")])


def no_layouts():
    names = "abcdefghi"
    nine = ("across", [(1, ("down", [(1, name) for name in names[k:k + 3]])) for k in (0, 3, 6)])
    found = NO_NAMES + [
        None, True, 0, [], (), {}, ("across",), ("across", []), ("across", [(1, "a")]),
        ("across", ((1, "a"), (1, "b"))),
        ["across", [(1, "a"), (1, "b")]], ("Across", [(1, "a"), (1, "b")]), ("up", [(1, "a"), (1, "b")]),
        ("across", [(1, name) for name in "abcde"]), ("across", [(1, "a"), (1, "b")], 1),
        (["across"], [(1, "a"), (1, "b")]),
        ("across", "ab"), ("across", [(1, "a"), "b"]), ("across", [(1, "a"), (1, "a")]),
        ("across", [(1, "a"), ("1", "b")]),
        ("across", [(0, "a"), (1, "b")]), ("across", [(10, "a"), (1, "b")]), ("across", [(True, "a"), (1, "b")]),
        ("across", [(1, "a"), (1,)]), ("across", [(1, "a"), [1, "b"]]), ("across", [(1, "a"), (1, "b", 1)]),
        ("across", [(None, "a"), (1, "b")]), nine, part(DEEP), part(part(part(part(PAIR)))), plain(),
        ("down", [(1, PAIR), (1, "b")]), part(nine),
    ]
    return found + [part(value) for value in NO_NAMES + [None, ("across", []), ["a"]]]


def share(weights, size):
    """One by one, as [210] tells it."""
    has = [0] * len(weights)
    for _ in range(size):
        worth = [Fraction(weight, many + 1) for weight, many in zip(weights, has)]
        has[worth.index(max(worth))] += 1
    return has


def naive_rooms(layout, left, top, width, height):
    if isinstance(layout, str):
        return [(layout, left, top, width, height)]
    found = []
    for (_, inner), size in zip(layout[1], share([weight for weight, _ in layout[1]],
                                                 width if layout[0] == "across" else height)):
        if layout[0] == "across":
            found += naive_rooms(inner, left, top, size, height)
            left += size
        else:
            found += naive_rooms(inner, left, top, width, size)
            top += size
    return found


def random_layout(chance, names, most=9, depth=4):
    """A layout with just these windows."""
    if len(names) == 1:
        return names[0]
    if depth == 1 and len(names) > 4:
        raise ValueError("too many windows for one level")
    many = len(names) if depth == 1 else chance.randint(2, min(4, len(names)))
    cuts = [0] + sorted(chance.sample(range(1, len(names)), many - 1)) + [len(names)]
    rows = [names[low:high] for low, high in zip(cuts, cuts[1:])]
    return (chance.choice(["across", "down"]),
            [(chance.randint(1, most), random_layout(chance, row, most, depth - 1)) for row in rows])


def layouts(seed, times, most_windows=8, weight=9):
    chance = Random(seed)
    found = []
    while len(found) < times:
        names = chance.sample(["a", "b", "c", "dd", "e", "f", "g", "hello"], chance.randint(1, most_windows))
        try:
            found.append(random_layout(chance, names, weight))
        except ValueError:
            continue
    return found


def windows_of(layout):
    return [row[0] for row in naive_rooms(layout, 0, 0, 0, 0)]


class RoomsTest(Case):
    """[210]"""

    def test_all(self):
        chance = Random(1)
        for layout in layouts(2, 120):
            for _ in range(6):
                width, height = chance.randint(0, 60), chance.randint(0, 60)
                self.assertEqual(rooms(layout, width, height), naive_rooms(layout, 0, 0, width, height))

    def test_all_weights(self):
        for weights in [*product(range(1, 10), repeat=2), (1, 2, 3), (3, 3, 3), (9, 1, 9, 1), (2, 4, 6, 8), (5, 7, 9)]:
            layout = ("across", [(weight, name) for weight, name in zip(weights, "abcd")])
            for size in range(0, 45):
                self.assertEqual([row[3] for row in rooms(layout, size, 3)], share(weights, size))

    def test_far_sizes(self):
        far = 10 ** 30 - 1
        chance = Random(3)
        for layout in layouts(4, 60):
            for width, height in ((far, far), (0, far), (far, 0), (chance.randint(0, far), chance.randint(0, far))):
                told = rooms(layout, width, height)
                self.assertEqual([row[0] for row in told], windows_of(layout))
                self.assertEqual(sum(row[3] * row[4] for row in told), width * height)
                more = rooms(layout, width + 1, height + 1)
                self.assertTrue(all(one[3] <= other[3] and one[4] <= other[4] for one, other in zip(told, more)))
        # One by one from a size at which all parts have just as many times their weights.
        weights = (9, 4, 7, 1)
        layout = ("down", [(weight, name) for weight, name in zip(weights, "abcd")])
        turns = 10 ** 28
        has = [weight * turns for weight in weights]
        for size in range(21 * turns, 21 * turns + 50):
            self.assertEqual([row[4] for row in rooms(layout, 1, size)], has)
            worth = [Fraction(weight, many + 1) for weight, many in zip(weights, has)]
            has[worth.index(max(worth))] += 1

    def test_no_window_takes_less_at_a_greater_size(self):
        for layout in layouts(5, 60):
            for size in range(30):
                for one, other in zip(rooms(layout, size, 2 * size), rooms(layout, size + 1, 2 * size + 1)):
                    self.assertTrue(one[3] <= other[3] and one[4] <= other[4])

    def test_edges(self):
        self.assertEqual(rooms("a", 3, 0), [("a", 0, 0, 3, 0)])
        self.assertEqual(rooms("across", 1, 1), [("across", 0, 0, 1, 1)])
        self.assertEqual(rooms(("down", [(1, "down"), (1, "across")]), 1, 1),
                         [("down", 0, 0, 1, 1), ("across", 0, 1, 1, 0)])
        self.assertEqual(rooms(PAIR, 0, 0), [("a", 0, 0, 0, 0), ("b", 0, 0, 0, 0)])
        # The first of equal ones takes the next column.
        self.assertEqual(rooms(PAIR, 3, 1), [("a", 0, 0, 2, 1), ("b", 2, 0, 1, 1)])
        self.assertEqual([row[3] for row in rooms(("across", [(1, "a"), (2, "b"), (1, "c")]), 2, 1)], [1, 1, 0])
        eight = ("down", [(k + 1, ("across", [(1, name), (9, name * 2)])) for k, name in enumerate("abcd")])
        self.assertEqual(len(rooms(eight, 10, 10)), 8)
        self.assertEqual(rooms(eight, 10, 10), naive_rooms(eight, 0, 0, 10, 10))
        self.assertEqual(rooms(DEEP, 17, 13), naive_rooms(DEEP, 0, 0, 17, 13))

    def test_errors(self):
        calls = [lambda value: rooms(value, None, None), lambda value: least_room(value, None),
                 lambda value: unlike_size(value, None), lambda value: unlike_size("a", value)]
        for call in calls:
            self.refuse_each(InvalidLayout, no_layouts(), call)
        self.refuse_each(InvalidNumber, NO_NUMBERS + [-1], lambda value: rooms(PAIR, value, None))
        self.refuse_each(InvalidNumber, NO_NUMBERS + [-1], lambda value: rooms(PAIR, 0, value))

    def test_lists_stay(self):
        layout = ("across", [(1, "a"), (1, ("down", [(1, "b"), (2, "c")]))])
        rooms(layout, 9, 9).clear()
        least_room(layout, [("a", 1, 1)])
        unlike_size(layout, layout)
        self.assertEqual(layout, ("across", [(1, "a"), (1, ("down", [(1, "b"), (2, "c")]))]))
        self.assertEqual(len(rooms(layout, 9, 9)), 3)


class LeastRoomTest(Case):
    """[211], `least_room`"""

    def naive(self, layout, wishes):
        found = []
        for at in (3, 4):
            size = 0
            while not all(row[at] >= wish[at - 2] for row in rooms(layout, size, size) for wish in wishes
                          if wish[0] == row[0]):
                size += 1
            found.append(size)
        return tuple(found)

    def test_all_small_sizes(self):
        chance = Random(6)
        for layout in layouts(7, 150, 5):
            names = windows_of(layout)
            wishes = [(name, chance.randint(0, 6), chance.randint(0, 6)) for name in
                      chance.sample(names, chance.randint(0, len(names)))]
            told = least_room(layout, wishes)
            self.assertEqual(told, self.naive(layout, wishes), (layout, wishes))
            # Both at once, and none of them can be less.
            room = {row[0]: row for row in rooms(layout, *told)}
            self.assertTrue(all(room[name][3] >= width and room[name][4] >= height for name, width, height in wishes))

    def test_each_weight(self):
        for weights in [*product((1, 2, 3, 7, 9), repeat=2), (3, 3, 3), (2, 5, 9, 1)]:
            layout = ("across", [(weight, name) for weight, name in zip(weights, "abcd")])
            for name, wish in product("abcd"[:len(weights)], range(12)):
                self.assertEqual(least_room(layout, [(name, wish, 0)]), self.naive(layout, [(name, wish, 0)]))

    def test_far(self):
        far = 10 ** 30 - 1
        for layout in layouts(8, 40):
            wishes = [(name, far, far - 1) for name in windows_of(layout)]
            width, height = least_room(layout, wishes)
            told = rooms(layout, width, height)
            self.assertTrue(all(row[3] >= far and row[4] >= far - 1 for row in told))
            self.assertFalse(all(row[3] >= far for row in rooms(layout, width - 1, height)))
            self.assertFalse(all(row[4] >= far - 1 for row in rooms(layout, width, height - 1)))

    def test_edges(self):
        self.assertEqual((least_room("a", []), least_room(PAIR, []), least_room(DEEP, [])), ((0, 0),) * 3)
        self.assertEqual(least_room("a", [("a", 3, 5)]), (3, 5))
        self.assertEqual(least_room(PAIR, [("b", 1, 0), ("a", 0, 0)]), (2, 0))
        self.assertEqual(least_room(PAIR, [("a", 1, 0)]), (1, 0))
        self.assertEqual(least_room(DEEP, [("b", 0, 1)]), self.naive(DEEP, [("b", 0, 1)]))

    def test_errors(self):
        self.refuse_each(InvalidList, NO_LISTS + [(("a", 1, 1),)], lambda value: least_room(PAIR, value))
        wrong = [None, True, "a", [], (), ("a",), ("a", 1), ("a", 1, 1, 1), ["a", 1, 1], ("c", 1, 1), ("", 1, 1),
                 (None, 1, 1), (["a"], 1, 1), ("a", -1, 1), ("a", 1, -1), ("a", True, 1), ("a", 1, False),
                 ("a", "1", 1),
                 ("a", 1, None), ("b", 1, 1), {}, ("ab", 1, 1)]
        for value in wrong:
            self.refuse(InvalidItem, value, least_room, PAIR, [("b", 1, 1), value, None])


class UnlikeSizeTest(Case):
    """[211], `unlike_size`"""

    def naive(self, one, other, most):
        for size in range(most):
            if sorted(rooms(one, size, size)) != sorted(rooms(other, size, size)):
                return size
        return None

    def test_all(self):
        chance, kinds = Random(9), {}
        for _ in range(300):
            names = ["a", "b", "c", "d"][:chance.randint(1, 4)]
            one = random_layout(chance, names, 3)
            other = random_layout(chance, names, 3) if chance.random() < 0.4 else self.near(chance, one)
            told = unlike_size(one, other)
            self.assertEqual(told, self.naive(one, other, 80), (one, other))
            kinds[told] = kinds.get(told, 0) + 1
            if told is None:
                for width, height in ((7, 30), (100, 3), (10 ** 20, 10 ** 25 + 7)):
                    self.assertEqual(sorted(rooms(one, width, height)), sorted(rooms(other, width, height)))
        self.assertTrue(all(kinds.get(kind, 0) > 1 for kind in (None, 1, 2, 3, 4)), kinds)

    def near(self, chance, layout):
        """A layout that is much like another one: a weight is another one, or all of a row are doubled, or nothing."""
        if isinstance(layout, str):
            return layout
        word, parts = layout
        parts = [(weight, self.near(chance, inner)) for weight, inner in parts]
        if chance.random() < 0.3 and all(weight == parts[0][0] for weight, _ in parts):
            weight = chance.randint(1, 3)
            parts = [(weight, inner) for _, inner in parts]
        elif chance.random() < 0.3:
            at = chance.randrange(len(parts))
            parts[at] = (chance.randint(1, 3), parts[at][1])
        return (word, parts)

    def test_edges(self):
        self.assertIsNone(unlike_size("a", "a"))
        self.assertIsNone(unlike_size(PAIR, ("across", [(3, "a"), (3, "b")])))
        self.assertEqual(unlike_size(PAIR, ("across", [(1, "b"), (1, "a")])), 1)
        self.assertEqual(unlike_size(PAIR, ("down", [(1, "a"), (1, "b")])), 1)
        self.assertEqual(unlike_size(("across", [(2, "a"), (3, "b")]), ("across", [(3, "a"), (3, "b")])), 1)
        self.assertEqual(unlike_size(("across", [(3, "a"), (2, "b")]), PAIR), 4)
        self.assertEqual(unlike_size(("across", [(3, "b"), (2, "a")]), ("across", [(3, "b"), (3, "a")])), 4)
        # Nested one way and the other way the same columns come.
        nested = ("across", [(2, PAIR), (1, "c")])
        self.assertEqual(unlike_size(nested, ("across", [(1, "a"), (1, "b"), (1, "c")])), self.naive(
            nested, ("across", [(1, "a"), (1, "b"), (1, "c")]), 60))
        four = ("across", [(1, "a"), (1, "b"), (1, "c"), (1, "d")])
        halves = ("across", [(1, PAIR), (1, ("across", [(1, "c"), (1, "d")]))])
        self.assertEqual(unlike_size(four, halves), self.naive(four, halves, 60))
        # Only at this size does a column of the innermost ones go another way.
        for word in ("across", "down"):
            late = [(word, [(3, "a"), (1, (word, [(3, "b"), (1, (word, [(one, "c"), (other, "d")]))]))])
                    for one, other in ((1, 2), (2, 3))]
            self.assertEqual((unlike_size(*late), self.naive(*late, 80)), (64, 64))
        # Where windows stand tells, too.
        self.assertEqual(unlike_size(("down", [(1, "a"), (3, "b")]), ("down", [(1, "b"), (3, "a")])), 1)

    def test_errors(self):
        for other in ("b", ("across", [(1, "a"), (1, "c")]), ("down", [(1, "a"), (1, "b"), (1, "c")]), "a"):
            self.refuse(InvalidLayout, other, unlike_size, PAIR, other)
        self.refuse(InvalidLayout, PAIR, unlike_size, "a", PAIR)


class SettlingTest(Case):
    """[212]"""

    def naive(self, text, width, other, row):
        def first(at, size):
            """The first place of a row, found among all places."""
            line, start, _ = screen(text, size)[at]
            return len("\n".join(text.split("\n")[:line])) + (line > 0) + start

        times = 0
        while True:
            there = spot(text, other, first(row, width))[0]
            back = spot(text, width, first(there, other))[0]
            if back == row:
                return times, row
            times, row = times + 1, back

    def test_all(self):
        chance, counts = Random(10), {}
        for _ in range(120):
            text = "".join(chance.choice(["a ", "bb ", "aaaa ", "abc ", "ab "] * 4 + [" ", "\n"])
                           for _ in range(chance.randint(0, 30)))
            for width, other in product(chance.sample(range(1, 15), 5), repeat=2):
                rows = screen(text, width)
                for row in sorted({0, len(rows) - 1, chance.randrange(len(rows))}):
                    told = settling(text, width, other, row)
                    self.assertEqual(told, self.naive(text, width, other, row))
                    self.assertEqual(settling(text, width, other, told[1]), (0, told[1]))
                    counts[told[0]] = counts.get(told[0], 0) + 1
        self.assertTrue(all(counts.get(times, 0) > 3 for times in range(4)), counts)

    def test_edges(self):
        self.assertEqual(settling("", 1, 9, 0), (0, 0))
        self.assertEqual(settling("a b c", 2, 2, 2), (0, 2))
        self.assertEqual(settling("a b c", 2, 99, 2), (1, 0))
        self.assertEqual(settling("a b c", 99, 2, 0), (0, 0))
        self.assertEqual(settling("a\nb\n\nc", 1, 10 ** 30, 2), (0, 2))
        self.assertEqual(settling("ab cde f\n\nabcdefg h", 5, 8, 4), (0, 4))
        self.assertEqual(settling("aa aa aaaa aaa aaa aaaa aa aaaaa aaa aa", 9, 11, 4), (4, 0))

    def test_errors(self):
        self.refuse_each(InvalidText, NO_TEXTS, lambda value: settling(value, None, None, None))
        self.refuse_each(InvalidNumber, NO_NUMBERS + [0, -1], lambda value: settling("a b", value, None, None))
        self.refuse_each(InvalidNumber, NO_NUMBERS + [0, -1], lambda value: settling("a b", 2, value, None))
        self.refuse_each(InvalidNumber, NO_NUMBERS + [-1, 2], lambda value: settling("a b", 2, 9, value))


class SeeingTest(Case):
    """[213]"""

    def check(self, text, width, height, places):
        many = len(screen(text, width))
        rows = [spot(text, width, place)[0] for place in places]
        covered, apart = covering(text, width, height, places), scattered(text, width, height, places)
        self.assertEqual(covered, sorted(set(covered)))
        self.assertEqual(apart, sorted(set(apart)))
        self.assertTrue(set(covered) <= set(range(many)) and set(apart) <= set(places))
        self.assertTrue(all(any(top <= row < top + height for top in covered) for row in rows))
        for one, other in combinations(apart, 2):
            first, second = spot(text, width, one)[0], spot(text, width, other)[0]
            self.assertFalse(any(top <= first < top + height and top <= second < top + height for top in range(many)))
        self.assertEqual(len(covered), len(apart))
        return many, rows

    def test_all_lists(self):
        chance, sizes = Random(11), {}
        for _ in range(250):
            text = "".join(chance.choice(["a ", "b ", "\n", "abc"]) for _ in range(chance.randint(0, 9)))
            width, height = chance.randint(1, 4), chance.randint(1, 4)
            places = [chance.randint(0, len(text)) for _ in range(chance.randint(0, 6))]
            many, rows = self.check(text, width, height, places)
            told = len(covering(text, width, height, places))
            # No list of fewer rows sees them all, no list of more places has no two seen from one row.
            for chosen in combinations(range(many), told - 1) if told else []:
                self.assertFalse(all(any(top <= row < top + height for top in chosen) for row in rows))
            spots = {place: spot(text, width, place)[0] for place in places}
            for chosen in combinations(sorted(spots), told + 1):
                self.assertTrue(any(abs(spots[one] - spots[other]) < height for one, other in combinations(chosen, 2)))
            sizes[told] = sizes.get(told, 0) + 1
        self.assertTrue(all(sizes.get(size, 0) > 5 for size in range(5)), sizes)

    def test_edges(self):
        text = "a\nb\nc\nd\ne"
        self.assertEqual((covering(text, 1, 3, []), scattered(text, 1, 3, [])), ([], []))
        self.assertEqual(len(covering(text, 1, 1, list(range(10)))), 5)
        self.assertEqual(len(covering(text, 1, 2, list(range(10)))), 3)
        # Windows higher than the text.
        for height in (5, 6, 10 ** 30):
            self.assertEqual(len(covering(text, 1, height, [9, 0, 4, 9])), 1)
            self.check(text, 1, height, [9, 0, 4, 9])
        self.assertEqual(len(scattered(text, 1, 4, [8, 0])), 2)
        self.assertEqual(len(scattered(text, 1, 5, [8, 0])), 1)
        self.assertEqual((covering("", 1, 1, [0, 0]), scattered("", 1, 1, [0, 0])), ([0], [0]))
        self.check(text, 1, 2, [8, 6, 4, 2, 0, 0, 8])

    def test_errors(self):
        for call in (covering, scattered):
            self.refuse_each(InvalidText, NO_TEXTS, lambda value: call(value, None, None, None))
            self.refuse_each(InvalidNumber, NO_NUMBERS + [0, -1], lambda value: call("a b", value, None, None))
            self.refuse_each(InvalidNumber, NO_NUMBERS + [0, -1], lambda value: call("a b", 2, value, None))
            self.refuse_each(InvalidList, NO_LISTS, lambda value: call("a b", 2, 1, value))
            self.refuse_each(InvalidItem, NO_NUMBERS + [-1, 4], lambda value: call("a b", 2, 1, [0, 3, value, None]))

    def test_lists_stay(self):
        places = [8, 0, 4]
        for call in (covering, scattered):
            call("a\nb\nc\nd\ne", 1, 2, places).clear()
            self.assertEqual(len(call("a\nb\nc\nd\ne", 1, 2, places)), 3)
        self.assertEqual(places, [8, 0, 4])


if __name__ == "__main__":
    unittest.main()
