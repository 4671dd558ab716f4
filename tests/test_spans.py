"""[65], [66]: selections filled and emptied, places between two states, swaps."""

import unittest
from itertools import combinations, product
from random import Random

from everrow.errors import InvalidHistory, InvalidItem, InvalidList, InvalidMark, InvalidState
from everrow.history import History, ever_row, seen, whole
from everrow.marks import place_of
from everrow.spans import emptied, filled, places_between, swaps
from everrow.states import way
from tests import naive
from tests.cases import Case
from tests.makers import NO_HISTORIES, NO_LISTS, chain, heap, mixed, no_states, plain, random_deeds
from tests.test_marks import A, ANN, B, BOB, DROP, FIRST, LAST, X, all_marks, amid, no_marks, no_selections

MANY = ("ahead", A), ("behind", B)


def inside(deeds, selection):
    """The signs that lie within a selection."""
    return [sign for sign in amid(deeds, selection[1]) if sign not in amid(deeds, selection[0])]


def nearest(found, state):
    """Those of some states to which the fewest steps lead from one."""
    fewest = min(len(set(other) ^ set(state)) for other in found)
    return [other for other in found if len(set(other) ^ set(state)) == fewest]


def fourteen(seed):
    """14 deeds, about half of them drops of several signs each."""
    deeds = random_deeds(seed, 14, drops=2)
    return History(deeds), [(state, seen(History(deeds), state)) for state in naive.states(deeds)]


class SelectionsTest(Case):
    """[65]"""

    def check(self, given, shown, state, selection, signs):
        full = [other for other, row in shown if set(signs) <= set(row)]
        bare = [other for other, row in shown if not set(signs) & set(row)]
        self.assertEqual([filled(given, state, selection)], nearest(full, state))
        told = emptied(given, state, selection)
        self.assertIn(told, nearest(bare, state))
        self.assertEqual(len(way(given, state, told)), len(set(state) ^ set(told)))

    def test_all(self):
        for seed in range(30):
            deeds = random_deeds(seed, 1 + seed % 6, drops=1 + seed % 3)
            given, shown, chance = History(deeds), naive.all_seen(deeds), Random(seed)
            folds = [(one, other) for one, other in combinations(all_marks(deeds), 2)]
            for selection in chance.sample(folds, min(25, len(folds))):
                for state, _ in chance.sample(shown, min(20, len(shown))):
                    self.check(given, shown, state, selection, inside(deeds, selection))

    def test_fourteen(self):
        for seed in range(6):
            given, shown = fourteen(seed)
            chance, row = Random(seed), ever_row(given)
            for _ in range(6):
                first, last = sorted(chance.sample(range(len(row)), 2))
                state = chance.choice(shown)[0]
                selection = (("ahead", row[first]), ("behind", row[last]))
                self.check(given, shown, state, selection, row[first:last + 1])

    def test_what_has_to_come_for_a_drop_can_cost_more_than_a_put(self):
        # The drop rests on a far put, so that it is nearer to take the put of the signs out.
        deeds = chain(4) + [("put", (1, "b"), None, "xy"), ("drop", (9, "a"), [(1, "b", 0), (1, "b", 1), (4, "a", 0)])]
        given = History(deeds)
        selection = (("ahead", (1, "b", 0)), ("behind", (1, "b", 1)))
        self.assertEqual(emptied(given, [(1, "b")], selection), [])
        self.assertEqual(emptied(given, whole(given), selection), whole(given))
        less = [name for name in whole(given) if name != (9, "a")]
        self.assertEqual(len(emptied(given, less, selection)) - len(less), -1)
        # With what rests on that put, the drop is nearer.
        more = History(deeds + [("put", (k, "c"), (1, "b", 1), "z") for k in (2, 3)])
        full = [name for name in whole(more) if name != (9, "a")]
        self.assertEqual(emptied(more, full, selection), whole(more))
        self.assertEqual(filled(more, whole(more), selection), full)
        self.assertEqual(filled(more, [(1, "a")], (FIRST, LAST)), full)
        self.assertEqual(emptied(more, full, (FIRST, LAST)), [])

    def test_selections_that_hold_nothing(self):
        given = History(mixed(3, 3))
        for state in ([], whole(given)[:2], whole(given)):
            for selection in ((FIRST, FIRST), (LAST, LAST), (FIRST, ("ahead", (1, "a", 0))),
                              (("behind", (1, "a", 0)), ("ahead", (1, "a", 1))), (("ahead", (1, "a", 3)),) * 2):
                self.assertEqual(filled(given, state, selection), state)
                self.assertEqual(emptied(given, state, selection), state)
        empty = History([])
        self.assertEqual((filled(empty, [], (FIRST, LAST)), emptied(empty, [], (FIRST, LAST))), ([], []))

    def test_errors(self):
        for call in (filled, emptied):
            self.refuse_each(InvalidHistory, NO_HISTORIES, lambda value: call(value, None, None))
            self.refuse_each(InvalidState, no_states(), lambda value: call(plain(), value, None))
            self.refuse_each(InvalidMark, no_selections(), lambda value: call(plain(), [ANN], value))

    def test_arguments_stay(self):
        state = [ANN, BOB]
        filled(plain(), state, MANY).clear()
        emptied(plain(), state, MANY).clear()
        emptied(plain(), state, (FIRST, FIRST)).append(DROP)
        self.assertEqual(state, [ANN, BOB])


class BetweenTest(Case):
    """[66], `places_between`"""

    def test_all(self):
        nothing = 0
        for seed in range(24):
            deeds = random_deeds(seed, 1 + seed % 6, drops=1 + seed % 3)
            given, shown = History(deeds), naive.all_seen(deeds)
            chance = Random(seed)
            pairs = list(product([state for state, _ in shown], repeat=2))
            for low, high in chance.sample(pairs, min(60, len(pairs))):
                rows = [row for state, row in shown if set(low) <= set(state) <= set(high)]
                nothing += not rows
                for mark in all_marks(deeds):
                    places = [len([sign for sign in row if sign in amid(deeds, mark)]) for row in rows]
                    wanted = (min(places), max(places)) if places else None
                    self.assertEqual(places_between(given, low, high, mark), wanted)
        self.assertGreater(nothing, 100)

    def test_fourteen(self):
        for seed in range(6):
            given, shown = fourteen(seed)
            for mark in [LAST] + [("behind", sign) for sign in ever_row(given)[::3]]:
                gap = ever_row(given)[:place_in_row(given, mark)]
                places = [len([sign for sign in row if sign in gap]) for _, row in shown]
                self.assertEqual(places_between(given, [], whole(given), mark), (min(places), max(places)))

    def test_a_put_that_comes_for_a_drop(self):
        # The drop takes three signs and needs a put of one.
        deeds = [("put", (1, "a"), None, "abc"), ("put", (2, "a"), None, "x"),
                 ("drop", (3, "a"), [(1, "a", 0), (1, "a", 1), (1, "a", 2), (2, "a", 0)])]
        given = History(deeds)
        self.assertEqual(places_between(given, [(1, "a")], whole(given), LAST), (0, 4))
        self.assertEqual(places_between(given, [(1, "a")], [(1, "a"), (2, "a")], LAST), (3, 4))
        self.assertEqual(places_between(given, [], whole(given), FIRST), (0, 0))
        self.assertEqual(places_between(given, whole(given), whole(given), LAST), (0, 0))
        self.assertIsNone(places_between(given, [(2, "a")], [(1, "a")], LAST))
        self.assertEqual(places_between(History([]), [], [], LAST), (0, 0))

    def test_errors(self):
        self.refuse_each(InvalidHistory, NO_HISTORIES, lambda value: places_between(value, None, None, None))
        self.refuse_each(InvalidState, no_states(), lambda value: places_between(plain(), value, None, None))
        self.refuse_each(InvalidState, no_states(), lambda value: places_between(plain(), [ANN], value, None))
        # The mark is looked at even where there is no state between the two.
        self.refuse_each(InvalidMark, no_marks(), lambda value: places_between(plain(), [ANN], [], value))


def place_in_row(given, mark):
    return len(ever_row(given)) if mark == LAST else ever_row(given).index(mark[1]) + 1


class SwapsTest(Case):
    """[66], `swaps`"""

    def test_all(self):
        found = 0
        for seed in range(40):
            deeds = random_deeds(seed, 1 + seed % 7, drops=2)
            given, chance = History(deeds), Random(seed)
            states = naive.states(deeds)
            rows = [chance.choice(states) for _ in range(seed % 5)]
            marks = [chance.choice(all_marks(deeds)) for _ in range(seed % 9)]
            wanted = []
            for one, other in combinations(range(len(marks)), 2):
                same = [place_of(given, row, marks[one]) == place_of(given, row, marks[other]) for row in rows]
                if any(same) and not all(same):
                    wanted.append((one, other))
            self.assertEqual(swaps(given, rows, marks), wanted)
            found += len(wanted)
        self.assertGreater(found, 20)

    def test_edges(self):
        marks = [LAST, ("behind", A), ("ahead", B), ("behind", A), ("behind", B)]
        self.assertEqual(swaps(plain(), [], marks), [])
        self.assertEqual(swaps(plain(), [[ANN]], marks), [])
        self.assertEqual(swaps(plain(), [[ANN], [ANN, DROP]], []), [])
        self.assertEqual(swaps(plain(), [[ANN], [ANN, DROP]], marks), [(0, 1), (0, 2), (0, 3), (1, 4), (2, 4), (3, 4)])
        self.assertEqual(swaps(plain(), [[ANN], [ANN, BOB]], marks), [(1, 2), (2, 3)])
        given = History(heap(14))
        ends = [FIRST, LAST]
        self.assertEqual(swaps(given, [[], whole(given)] * 10, ends), [(0, 1)])
        self.assertEqual(swaps(given, [whole(given)[:1], whole(given)], ends), [])

    def test_errors(self):
        self.refuse_each(InvalidHistory, NO_HISTORIES, lambda value: swaps(value, None, None))
        self.refuse_each(InvalidList, NO_LISTS + [([],)], lambda value: swaps(plain(), value, None))
        self.refuse_each(InvalidItem, no_states(), lambda value: swaps(plain(), [[], value, None], None))
        self.refuse_each(InvalidList, NO_LISTS + [(FIRST,)], lambda value: swaps(plain(), [[]], value))
        self.refuse_each(InvalidItem, no_marks(), lambda value: swaps(plain(), [], [FIRST, value, None]))

    def test_arguments_stay(self):
        states, marks = [[ANN], [ANN, BOB]], [LAST, ("behind", X)]
        swaps(plain(), states, marks).append(1)
        self.assertEqual((states, marks), ([[ANN], [ANN, BOB]], [LAST, ("behind", X)]))


if __name__ == "__main__":
    unittest.main()
