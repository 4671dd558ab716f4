"""[20] to [24]: states."""

import unittest
from itertools import combinations, product

from everrow.errors import InvalidHistory, InvalidNumber, InvalidState, InvalidText, UnknownDeed
from everrow.history import History, whole
from everrow.states import (
    how_many, into, is_way, join, meet, number_of, out, parted, showing, state_at, texts, way,
)
from tests import naive
from tests.cases import Case
from tests.makers import (
    NO_DEED_NAMES, NO_HISTORIES, NO_NUMBERS, NO_TEXTS, PLAIN, chain, heap, mixed, no_states, plain, random_deeds,
)

ANN, BOB, DROP = (1, "ann"), (2, "bob"), (3, "ann")


class BoundsTest(Case):
    """[20]"""

    def test_out_and_into(self):
        for seed in range(25):
            deeds = random_deeds(seed, 6)
            given = History(deeds)
            states = naive.states(deeds)
            for state in states:
                for deed in deeds:
                    name = deed[1]
                    within = [other for other in states if set(other) <= set(state) - {name}]
                    above = [other for other in states if set(state) | {name} <= set(other)]
                    self.assertEqual(out(given, state, name), naive.greatest(within))
                    self.assertEqual(into(given, state, name), min(above, key=len))

    def test_meet_and_join(self):
        for seed in range(15):
            deeds = random_deeds(seed, 6)
            given = History(deeds)
            for one, other in product(naive.states(deeds), repeat=2):
                self.assertEqual(meet(given, one, other), sorted(set(one) & set(other)))
                self.assertEqual(join(given, one, other), sorted(set(one) | set(other)))

    def test_edges(self):
        given = History(chain(24))
        self.assertEqual(out(given, whole(given), (1, "a")), [])
        self.assertEqual(out(given, [], (1, "a")), [])
        self.assertEqual(into(given, [], (24, "a")), whole(given))
        self.assertEqual(into(given, whole(given), (24, "a")), whole(given))
        self.assertEqual(meet(given, [], whole(given)), [])
        self.assertEqual(join(given, [], whole(given)), whole(given))

    def test_errors(self):
        given = plain()
        for call in (out, into):
            self.refuse_each(InvalidHistory, NO_HISTORIES, lambda value: call(value, None, None))
            self.refuse_each(InvalidState, no_states(), lambda value: call(given, value, None))
            self.refuse_each(UnknownDeed, NO_DEED_NAMES, lambda value: call(given, [ANN], value))

    def test_results_are_new(self):
        given, state = plain(), [ANN]
        results = out(given, state, BOB), into(given, state, ANN), meet(given, state, state), join(given, state, [])
        for result in results:
            self.assertEqual(result, state)
            self.assertIsNot(result, state)
            result.clear()
        self.assertEqual(state, [ANN])


class WaysTest(Case):
    """[21]"""

    def walk(self, deeds, one, steps):
        """Where steps lead by the words of the document, or None."""
        below = naive.rests_on(deeds)
        state = set(one)
        for word, name in steps:
            if word == "out":
                if name not in state or any(name in below[other] for other in state):
                    return None
                state = state - {name}
            else:
                if name in state or not below[name] <= state:
                    return None
                state = state | {name}
        return sorted(state)

    def test_ways(self):
        for seed in range(15):
            deeds = random_deeds(seed, 6)
            given = History(deeds)
            for one, other in product(naive.states(deeds), repeat=2):
                steps = way(given, one, other)
                self.assertEqual(self.walk(deeds, one, steps), other)
                self.assertEqual(len(steps), len(set(one) ^ set(other)))
                self.assertTrue(all(isinstance(step, tuple) and step[0] in ("out", "in") for step in steps))
                self.assertIs(is_way(given, one, other, steps), True)

    def test_no_shorter_way(self):
        given = plain()
        steps = [(word, name) for word in ("out", "in") for name in (ANN, BOB, DROP)]
        for one, other in product(naive.states(PLAIN), repeat=2):
            least = len(way(given, one, other))
            for size in range(least):
                for tried in product(steps, repeat=size):
                    self.assertNotEqual(self.walk(PLAIN, one, tried), other)

    def test_all_lists_of_steps(self):
        given = plain()
        steps = [(word, name) for word in ("out", "in") for name in (ANN, BOB, DROP)]
        states = naive.states(PLAIN)
        for size in range(4):
            for tried in product(steps, repeat=size):
                for one in states:
                    end = self.walk(PLAIN, one, tried)
                    for other in states:
                        self.assertIs(is_way(given, one, other, list(tried)), end == other)

    def test_a_way_around(self):
        steps = [("in", ANN), ("out", ANN), ("in", ANN), ("in", BOB), ("out", BOB)]
        self.assertTrue(is_way(plain(), [], [ANN], steps))
        self.assertFalse(is_way(plain(), [], [ANN], tuple(steps)))
        self.assertTrue(is_way(plain(), [ANN], [ANN], [("in", BOB), ("out", BOB)] * 50))

    def test_no_ways(self):
        for value in (None, True, 0, "in", (), {}, [None], [True], [("in",)], [("in", ANN, ANN)], [["in", ANN]],
                      [("In", ANN)], [(None, ANN)], [("in", [1, "ann"])], [("in", (True, "ann"))], [("in", (9, "z"))],
                      [("in", ANN), None], [(["in"], ANN)], [()], [("in", {})], plain()):
            self.assertIs(is_way(plain(), [], [ANN], value), False)

    def test_edges(self):
        given = History(mixed(12, 12))
        for one, other in (([], whole(given)), (whole(given), []), ([], []), (whole(given), whole(given))):
            steps = way(given, one, other)
            self.assertEqual(len(steps), 24 if one != other else 0)
            self.assertTrue(is_way(given, one, other, steps))

    def test_errors(self):
        given = plain()
        for call in (meet, join, way, lambda *told: is_way(*told, None), parted):
            self.refuse_each(InvalidHistory, NO_HISTORIES, lambda value: call(value, None, None))
            self.refuse_each(InvalidState, no_states(), lambda value: call(given, value, None))
            self.refuse_each(InvalidState, no_states(), lambda value: call(given, [ANN], value))


class NumbersTest(Case):
    """[22]"""

    def test_all(self):
        for seed in range(25):
            deeds = random_deeds(seed, 1 + seed % 7)
            given = History(deeds)
            states = naive.states(deeds)
            for low, high in product(states, repeat=2):
                amid = [state for state in states if set(low) <= set(state) <= set(high)]
                self.assertEqual(how_many(given, low, high), len(amid))
                for number, state in enumerate(amid):
                    self.assertEqual(state_at(given, low, high, number), state)
                    self.assertEqual(number_of(given, low, high, state), number)
                numbers = [-1, len(amid), len(amid) + 1]
                self.refuse_each(InvalidNumber, numbers, lambda value: state_at(given, low, high, value))
                others = [state for state in states if state not in amid]
                self.refuse_each(InvalidState, others, lambda value: number_of(given, low, high, value))

    def test_fourteen(self):
        given = History(heap(14))
        top = whole(given)
        self.assertEqual(how_many(given, [], top), 2 ** 14)
        states = naive.states(heap(14))
        for number in list(range(0, 2 ** 14, 499)) + [2 ** 14 - 1]:
            self.assertEqual(state_at(given, [], top, number), states[number])
            self.assertEqual(number_of(given, [], top, states[number]), number)
        self.assertEqual(how_many(given, top[3:9], top), 2 ** 8)
        self.assertEqual(how_many(given, top, top), 1)
        self.assertEqual(how_many(given, top, []), 0)
        self.assertEqual(how_many(History([]), [], []), 1)
        line = History(chain(14))
        self.assertEqual(how_many(line, [], whole(line)), 15)

    def test_errors(self):
        given, top = plain(), [ANN, BOB, DROP]
        calls = (how_many, lambda *told: state_at(*told, None), lambda *told: number_of(*told, None))
        for call in calls:
            self.refuse_each(InvalidHistory, NO_HISTORIES, lambda value: call(value, None, None))
            self.refuse_each(InvalidState, no_states(), lambda value: call(given, value, None))
            self.refuse_each(InvalidState, no_states(), lambda value: call(given, [], value))
        self.refuse_each(InvalidNumber, NO_NUMBERS + [-1, 5], lambda value: state_at(given, [], top, value))
        self.refuse(InvalidNumber, 0, lambda: state_at(given, top, [], 0))
        self.refuse_each(InvalidState, no_states(), lambda value: number_of(given, [], top, value))


class TextsTest(Case):
    """[23]"""

    def test_all(self):
        for seed in range(40):
            deeds = random_deeds(seed, seed % 8, letters="ab \n")
            given = History(deeds)
            shown = {}
            for state in naive.states(deeds):
                shown.setdefault(naive.text(deeds, state), []).append(state)
            self.assertEqual(texts(given), sorted(shown))
            for text, found in shown.items():
                self.assertEqual(showing(given, text), min(naive.least(found)))
                if text + "z" not in shown:
                    self.assertIsNone(showing(given, text + "z"))

    def test_fewest_deeds_before_order(self):
        # The state first in order that shows "b" has the deeds of (1, "a"), (2, "a"), (3, "a").
        deeds = [("put", (1, "a"), None, "a"), ("put", (2, "a"), None, "b"), ("drop", (3, "a"), [(1, "a", 0)]),
                 ("put", (4, "a"), None, "b")]
        self.assertEqual(showing(History(deeds), "b"), [(2, "a")])
        self.assertEqual(showing(History(deeds), ""), [])

    def test_fourteen(self):
        given = History(mixed(7, 7))
        found = texts(given)
        self.assertEqual((found[0], len(found)), ("", len(set(found))))
        top = naive.text(mixed(7, 7), whole(given))
        self.assertIn(top, found)
        self.assertEqual(showing(given, top), whole(given))
        self.assertIsNone(showing(given, "z" * 200))
        self.assertEqual(len(texts(History(heap(14)))), 15)

    def test_errors(self):
        self.refuse_each(InvalidHistory, NO_HISTORIES, lambda value: texts(value))
        self.refuse_each(InvalidHistory, NO_HISTORIES, lambda value: showing(value, None))
        self.refuse_each(InvalidText, NO_TEXTS, lambda value: showing(plain(), value))


class PartedTest(Case):
    """[24]"""

    def later(self, deeds, one, other):
        """All single later deeds, with few letters and as few signs as can part."""
        shared = [sign for sign in naive.signs(deeds) if sign[:2] in one and sign[:2] in other]
        name = (max([deed[1][0] for deed in deeds], default=0) + 1, "z")
        found = [("put", name, anchor, letter) for anchor in [None] + shared for letter in "abcz"]
        return found + [("drop", name, [sign]) for sign in shared]

    def differ(self, deeds, one, other, added):
        names = [deed[1] for deed in added]
        return naive.text(deeds + added, one + names) != naive.text(deeds + added, other + names)

    def check(self, deeds, one, other):
        result = parted(History(deeds), one, other)
        if result is None:
            self.assertFalse(self.differ(deeds, one, other, []))
            for deed in self.later(deeds, one, other):
                self.assertFalse(self.differ(deeds, one, other, [deed]))
            return
        self.assertLessEqual(len(result), 1)
        self.assertEqual(result == [], self.differ(deeds, one, other, []))
        for deed in result:
            numbers = [made[1][0] for made in deeds]
            self.assertGreater(deed[1][0], max(numbers, default=0))
            self.assertTrue(all(sign[:2] in one and sign[:2] in other for sign in naive.named(deed)))
            History(deeds + [deed])
        self.assertTrue(self.differ(deeds, one, other, result))

    def test_all(self):
        found = []
        for seed in range(40):
            deeds = random_deeds(seed, 5, letters="a" if seed % 2 else "ab", drops=2)
            for one, other in product(naive.states(deeds), repeat=2):
                self.check(deeds, one, other)
                found.append(parted(History(deeds), one, other))
        for word in ("put", "drop"):
            self.assertTrue(any(result and result[0][0] == word for result in found))
        self.assertIn(None, found)
        self.assertIn([], found)

    def test_many_later_deeds_part_only_what_one_does(self):
        # Of two later deeds, the second one may rest on the first one.
        deeds = [("put", (1, "a"), None, "aa"), ("drop", (2, "a"), [(1, "a", 0)]), ("drop", (2, "b"), [(1, "a", 1)]),
                 ("put", (2, "c"), (1, "a", 0), "b")]
        for one, other in product(naive.states(deeds), repeat=2):
            if parted(History(deeds), one, other) is None:
                for first, second in product(self.later(deeds, one, other), repeat=2):
                    second = (second[0], (9, "z")) + second[2:]
                    self.assertFalse(self.differ(deeds, one, other, [first, second]))
                    if first[0] == "put":
                        third = ("put", (9, "z"), (*first[1], 0), "q")
                        self.assertFalse(self.differ(deeds, one, other, [first, third]))

    def test_edges(self):
        self.assertIsNone(parted(History([]), [], []))
        self.assertIsNone(parted(plain(), [ANN, DROP], [ANN, DROP]))
        deeds = mixed(12, 11)
        top = whole(History(deeds))
        self.assertEqual(parted(History(deeds), top, []), [])
        self.assertIsNone(parted(History(deeds), top, top))
        twins = [("put", (1, "a"), None, "aa"), ("drop", (2, "a"), [(1, "a", 0)]), ("drop", (2, "b"), [(1, "a", 1)])]
        twins += [("put", (k, "c"), (1, "a", 1), "b") for k in range(2, 22)]
        self.assertEqual(len(twins), 23)
        one = sorted(deed[1] for deed in twins if deed[1] != (2, "a"))
        other = sorted(deed[1] for deed in twins if deed[1] != (2, "b"))
        self.check(twins, one, other)
        self.check(twins, [(1, "a"), (2, "a")], [(1, "a"), (2, "b")])

    def test_great_numbers(self):
        deeds = [("put", (10 ** 17, "a"), None, "aa"), ("drop", (10 ** 17 + 1, "a"), [(10 ** 17, "a", 0)]),
                 ("drop", (10 ** 17 + 1, "b"), [(10 ** 17, "a", 1)])]
        self.check(deeds, [deeds[0][1], deeds[1][1]], [deeds[0][1], deeds[2][1]])

    def test_all_pairs_of_a_line_of_drops(self):
        deeds = [("put", (1, "a"), None, "aaaa")]
        deeds += [("drop", (2 + k, "a"), list(pair)) for k, pair in
                  enumerate(combinations([(1, "a", at) for at in range(4)], 2))]
        states = naive.states(deeds)
        for one, other in product(states[::3], states[::2]):
            self.check(deeds, one, other)


if __name__ == "__main__":
    unittest.main()
