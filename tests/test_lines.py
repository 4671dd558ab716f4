"""[55] to [57]: lines between states, two at once, with few deeds; words."""

import unittest
from itertools import product

from everrow.errors import InvalidHistory, InvalidLine, InvalidNumber, InvalidState
from everrow.history import History, ever_row, whole
from everrow.lines import best_between, best_both, fewest_for, words_shown
from everrow.seen import best, stands
from tests import naive
from tests.cases import Case
from tests.makers import (
    NO_HISTORIES, NO_NUMBERS, chain, heap, mixed, no_states, plain, random_deeds,
)
from tests.test_seen import A, ANN, B, BOB, DROP, X, no_lines


class BetweenTest(Case):
    """[55]"""

    def test_between(self):
        for seed in range(12):
            deeds = random_deeds(seed, 5, drops=2, longest=2)
            given, shown = History(deeds), naive.all_seen(deeds)
            for line in naive.lines(deeds, 2):
                found = [state for state, signs in shown if naive.stands(deeds, signs, line)]
                for (low, _), (high, _) in product(shown, repeat=2):
                    amid = [state for state in found if set(low) <= set(state) <= set(high)]
                    self.assertEqual(best_between(given, low, high, line), naive.greatest(amid))

    def test_both(self):
        for seed in range(12):
            deeds = random_deeds(seed, 5, drops=2, longest=2)
            given, shown = History(deeds), naive.all_seen(deeds)
            for one, other in product(naive.lines(deeds, 2), repeat=2):
                found = [state for state, signs in shown
                         if naive.stands(deeds, signs, one) and naive.stands(deeds, signs, other)]
                self.assertEqual(best_both(given, one, other), naive.greatest(found))

    def test_edges(self):
        given = History(mixed(12, 12))
        top, order = whole(given), ever_row(given)
        self.assertEqual(best_between(given, [], top, order), top[:12])
        self.assertIsNone(best_between(given, top[:13], top, order))
        self.assertIsNone(best_between(given, [], top[:11], order))
        self.assertEqual(best_between(given, top, top, [order[0]]), top)
        self.assertIsNone(best_between(given, top, [], [order[0]]))
        self.assertEqual(best_both(given, [order[2]], [order[9]]), top[:12] + top[14:])
        self.assertEqual(best_both(given, order, order), top[:12])
        self.assertEqual(best_both(given, [order[0]], [order[-1]]), top)

    def test_errors(self):
        self.refuse_each(InvalidHistory, NO_HISTORIES, lambda value: best_between(value, None, None, None))
        self.refuse_each(InvalidHistory, NO_HISTORIES, lambda value: best_both(value, None, None))
        self.refuse_each(InvalidState, no_states(), lambda value: best_between(plain(), value, None, None))
        self.refuse_each(InvalidState, no_states(), lambda value: best_between(plain(), [], value, None))
        nothing = []
        for value in no_lines() + [nothing]:
            for call in (lambda: best_between(plain(), [], [], value), lambda: best_both(plain(), value, None),
                         lambda: best_both(plain(), [A], value)):
                self.refuse(InvalidLine, value, lambda: call())

    def test_arguments_stay(self):
        low, high, one, other = [ANN], [ANN, BOB, DROP], [A, X], [X]
        best_between(plain(), low, high, one).clear()
        best_both(plain(), one, other).clear()
        fewest_for(plain(), one).clear()
        self.assertEqual((low, high, one, other), ([ANN], [ANN, BOB, DROP], [A, X], [X]))


class FewestTest(Case):
    """[56]"""

    def check(self, deeds, most):
        given, shown = History(deeds), naive.all_seen(deeds)
        for line in naive.lines(deeds, most):
            found = [state for state, signs in shown if naive.stands(deeds, signs, line)]
            told = fewest_for(given, line)
            if found:
                self.assertIn(told, naive.least(found))
            else:
                self.assertIsNone(told)

    def test_all(self):
        for seed in range(30):
            self.check(random_deeds(seed, 7, drops=2, longest=2), 2)

    def test_choices(self):
        """Drops that hide some signs each, more or fewer of those amid, some with deeds of their own to rest on."""
        for seed in range(12):
            deeds = [("put", (1, "a"), None, "abcdef")]
            deeds += [("put", (2 + k, "b"), (1, "a", seed % 6) if k else None, "z") for k in range(2)]
            inner = [(1, "a", at) for at in range(1, 5)]
            chosen = [inner[:1], inner[1:2], inner[2:], inner[:2] + [(3, "b", 0)], inner[1:3], inner[3:]]
            for k, signs in enumerate(chosen[seed % 3:]):
                deeds.append(("drop", (9 + k, "c"), sorted(signs)))
            self.check(deeds, 2)

    def test_a_drop_that_brings_a_sign_amid(self):
        # The one drop of the sign in the middle rests on a put that stands amid, too, and has to be dropped in turn.
        deeds = [("put", (1, "a"), None, "xyz"), ("put", (2, "a"), (1, "a", 0), "p"),
                 ("drop", (3, "a"), [(1, "a", 1), (2, "a", 0)]), ("drop", (3, "b"), [(1, "a", 1)]),
                 ("put", (3, "c"), (1, "a", 0), "q"), ("drop", (4, "a"), [(1, "a", 1), (3, "c", 0)])]
        self.assertEqual(fewest_for(History(deeds), [(1, "a", 0), (1, "a", 2)]), [(1, "a"), (3, "b")])
        self.check(deeds, 3)
        del deeds[3]
        self.check(deeds, 3)

    def test_fourteen(self):
        deeds = [("put", (1, "a"), None, "abcdef"), ("put", (2, "a"), (1, "a", 5), "ghijkl")]
        signs = naive.row(deeds)
        deeds += [("drop", (3 + k, "b"), signs[1 + k:3 + k]) for k in range(9)]
        deeds += [("drop", (20 + k, "b"), signs[1 + 3 * k:4 + 3 * k]) for k in range(3)]
        self.assertEqual(len(deeds), 14)
        line = [signs[0], signs[-1]]
        told = fewest_for(History(deeds), line)
        found = [state for state in naive.states(deeds) if stands(History(deeds), state, line)]
        self.assertIn(told, naive.least(found))
        self.assertEqual(fewest_for(History(heap(14)), [(1, "a", 0)]), [(1, "a")])

    def test_errors(self):
        self.refuse_each(InvalidHistory, NO_HISTORIES, lambda value: fewest_for(value, None))
        nothing = []
        self.refuse_each(InvalidLine, no_lines() + [nothing], lambda value: fewest_for(plain(), value))


class WordsTest(Case):
    """[57]"""

    def test_all(self):
        for seed in range(40):
            deeds = random_deeds(seed, seed % 8, letters="ab\n ", drops=2 + seed % 2)
            given = History(deeds)
            shown = [naive.text(deeds, state) for state in naive.states(deeds)]
            for size in (1, 2, 3):
                words = {text[at:at + size] for text in shown for at in range(len(text) - size + 1)}
                self.assertEqual(words_shown(given, size), sorted(words))

    def test_edges(self):
        self.assertEqual(words_shown(History([]), 1), [])
        self.assertEqual(words_shown(History([("put", (1, "a"), None, "x")]), 2), [])
        given = History(chain(6, "abcdef"))
        self.assertEqual(words_shown(given, 3), ["abc", "bcd", "cde", "def", "efa", "fab"])
        many = History(heap(12, "abc") + [("drop", (20 + k, "b"), [(k, "a", 1)]) for k in range(1, 13)])
        self.assertEqual(len(ever_row(many)), 36)
        self.assertEqual(words_shown(many, 1), ["a", "b", "c"])
        self.assertEqual(words_shown(many, 2), ["ab", "ac", "bc", "ca"])
        self.assertEqual(words_shown(many, 3), ["abc", "aca", "bca", "cab", "cac"])

    def test_errors(self):
        self.refuse_each(InvalidHistory, NO_HISTORIES, lambda value: words_shown(value, None))
        self.refuse_each(InvalidNumber, NO_NUMBERS + [0, 4, -1], lambda value: words_shown(plain(), value))


class BestTest(Case):

    def test_between_all_bounds_it_is_best(self):
        deeds = random_deeds(4, 7, drops=2, longest=2)
        given = History(deeds)
        for line in naive.lines(deeds, 3):
            self.assertEqual(best_between(given, [], whole(given), line), best(given, line))
            self.assertEqual(best_both(given, line, line), best(given, line))
        self.assertEqual(best_both(plain(), [A], [B]), [ANN, BOB])


if __name__ == "__main__":
    unittest.main()
