"""[50] to [54]: what all states show."""

import unittest
from itertools import combinations, product

from everrow.errors import (
    InvalidHistory, InvalidItem, InvalidLine, InvalidList, InvalidState, InvalidText, UnknownSign,
)
from everrow.history import History, ever_row, text_of, whole
from everrow.seen import best, only, read, stands, trimmed, whenever
from everrow.states import join
from tests import naive
from tests.cases import Case
from tests.makers import (
    NO_HISTORIES, NO_LISTS, NO_SIGN_NAMES, NO_TEXTS, PLAIN, chain, heap, mixed, no_states, plain, random_deeds,
)

ANN, BOB, DROP = (1, "ann"), (2, "bob"), (3, "ann")
A, B, X = (1, "ann", 0), (1, "ann", 1), (2, "bob", 0)


def no_lines():
    """Values that are no lines of the plain history, whose ever-row is A, X, B."""
    found = [[sign] for sign in NO_SIGN_NAMES] + [[A, sign] for sign in NO_SIGN_NAMES]
    return found + NO_LISTS + [(A,), (A, B), [A, A], [B, A], [A, B, X], [X, A], plain()]


class StandsTest(Case):
    """[50]"""

    def test_all(self):
        for seed in range(25):
            deeds = random_deeds(seed, 6, drops=2, longest=2)
            given, shown = History(deeds), naive.all_seen(deeds)
            for line in naive.lines(deeds, 3):
                found = [state for state, signs in shown if naive.stands(deeds, signs, line)]
                for state, _ in shown:
                    self.assertIs(stands(given, state, line), state in found)
                self.assertEqual(best(given, line), naive.greatest(found))
                if len(found) > 1:
                    self.assertIn(join(given, found[0], found[-1]), found)

    def test_long_lines(self):
        for seed in range(20):
            deeds = random_deeds(seed, 5, longest=2)
            given, shown = History(deeds), naive.all_seen(deeds)
            order = naive.row(deeds)
            for line in (order, order[1:], order[::2], order[::3]):
                if line:
                    found = [state for state, signs in shown if naive.stands(deeds, signs, line)]
                    self.assertEqual(best(given, line), naive.greatest(found))

    def test_edges(self):
        deeds = mixed(12, 12)
        given = History(deeds)
        order = ever_row(given)
        for sign in order:
            wanted = whole(given)
            if sign[2] == (sign[0] + 1) % 6:
                wanted.remove((sign[0] + 12, "b"))
            self.assertEqual(best(given, [sign]), wanted)
        self.assertEqual(best(given, order), whole(given)[:12])
        self.assertIs(stands(given, whole(given)[:12], order), True)
        self.assertIs(stands(given, whole(given), order), False)
        # Of a put's signs the one in the middle can be hidden by no drop.
        self.assertIsNone(best(given, [(1, "a", 0), (1, "a", 3)]))
        self.assertIs(stands(given, [], [order[0]]), False)
        long = History(chain(24, "abcdef"))
        self.assertEqual(best(long, ever_row(long)), whole(long))

    def test_errors(self):
        for call in (best, only, lambda *told: stands(*told, None)):
            self.refuse_each(InvalidHistory, NO_HISTORIES, lambda value: call(value, None))
        self.refuse_each(InvalidState, no_states(), lambda value: stands(plain(), value, None))
        for call in (lambda line: stands(plain(), [], line), lambda line: best(plain(), line),
                     lambda line: only(plain(), line)):
            self.refuse_each(InvalidLine, no_lines(), lambda value: call(value))
        nothing = []
        for call in (lambda line: stands(plain(), [], line), lambda line: best(plain(), line)):
            self.refuse(InvalidLine, nothing, lambda: call(nothing))

    def test_arguments_stay(self):
        line, state = [A, B], [ANN, BOB]
        stands(plain(), state, line)
        best(plain(), line).clear()
        only(plain(), line).clear()
        self.assertEqual((line, state), ([A, B], [ANN, BOB]))


class OnlyTest(Case):
    """[51]"""

    def test_all(self):
        for seed in range(25):
            deeds = random_deeds(seed, 6, drops=2, longest=2)
            given, shown = History(deeds), naive.all_seen(deeds)
            for line in [[]] + naive.lines(deeds, 3):
                found = [state for state, signs in shown if signs == line]
                self.assertEqual(only(given, line), naive.greatest(found))

    def test_edges(self):
        self.assertEqual(only(History([]), []), [])
        self.assertEqual(only(plain(), []), [])
        self.assertEqual(only(plain(), [A]), [ANN, DROP])
        deeds = mixed(12, 12)
        given = History(deeds)
        self.assertEqual(only(given, ever_row(given)), whole(given)[:12])
        self.assertEqual(only(given, []), [])
        hidden = History([("put", (1, "a"), None, "abcdef"), ("drop", (2, "a"), [(1, "a", at) for at in range(6)])])
        self.assertEqual(only(hidden, []), whole(hidden))


class ReadTest(Case):
    """[52]"""

    def check(self, deeds, word, shown):
        found = read(History(deeds), word)
        known = naive.signs(deeds)
        lines = [line for line in naive.lines(deeds, len(word)) if "".join(known[sign] for sign in line) == word]
        standing = [line for line in lines if any(naive.stands(deeds, signs, line) for _, signs in shown)]
        self.assertEqual(found is None, not standing)
        self.assertEqual(found is None, not any(word in naive.text(deeds, state) for state, _ in shown))
        if found is not None:
            line, state = found
            self.assertIsInstance(found, tuple)
            self.assertIn(line, standing)
            self.assertEqual(state, best(History(deeds), line))
            self.assertEqual(state, naive.greatest([one for one, signs in shown if naive.stands(deeds, signs, line)]))

    def test_all(self):
        for seed in range(14):
            deeds = random_deeds(seed, 5, drops=2 + seed % 2, longest=2)
            shown = naive.all_seen(deeds)
            for size in range(1, 5):
                for word in product("ab", repeat=size):
                    self.check(deeds, "".join(word), shown)

    def test_blanks_and_line_ends(self):
        deeds = [("put", (1, "a"), None, " \n"), ("put", (2, "a"), (1, "a", 0), "a")]
        for word in (" \n", " a\n", "\n", "\n ", "a", "z"):
            self.check(deeds, word, naive.all_seen(deeds))

    def test_thirty_six_signs(self):
        deeds = [("put", (k, "a"), (k - 1, "a", 0) if k > 1 else None, "aba") for k in range(1, 13)]
        deeds += [("drop", (20 + k, "b"), [(k, "a", 1)]) for k in range(1, 13)]
        given = History(deeds)
        line, state = read(given, "aaaa")
        self.assertTrue(stands(given, state, line))
        self.assertIsNone(read(given, "bbbb"))
        self.assertIsNone(read(given, "aaac"))

    def test_errors(self):
        self.refuse_each(InvalidHistory, NO_HISTORIES, lambda value: read(value, None))
        self.refuse_each(InvalidText, NO_TEXTS + ["", "abcde"], lambda value: read(plain(), value))


class BeginningsTest(Case):
    """The remark of [52]."""

    def test_what_a_line_begins_with_stands_too(self):
        for seed in range(10):
            deeds = random_deeds(seed, 6, drops=2, longest=2)
            given = History(deeds)
            for line in naive.lines(deeds, 3):
                if best(given, line) is not None:
                    for size in range(1, len(line)):
                        self.assertIsNotNone(best(given, line[:size]))


class WheneverTest(Case):
    """[53]"""

    def test_all(self):
        for seed in range(40):
            deeds = random_deeds(seed, 6, drops=2)
            given, shown = History(deeds), naive.all_seen(deeds)
            below, order = naive.rests_on(deeds), naive.row(deeds)
            drops = {sign: {deed[1] for deed in deeds if deed[0] == "drop" and sign in deed[2]} for sign in order}
            for one, other in product(order, repeat=2):
                found = [state for state, signs in shown if one in signs and other not in signs]
                told = whenever(given, one, other)
                remark = (other[:2] == one[:2] or other[:2] in below[one[:2]]) and drops[other] <= drops[one]
                self.assertEqual(told is None, remark)
                if found:
                    self.assertIn(told, naive.least(found))
                else:
                    self.assertIsNone(told)

    def test_edges(self):
        deeds = mixed(12, 12)
        given = History(deeds)
        self.assertEqual(whenever(given, (12, "a", 0), (1, "a", 2)), whole(given)[:13])
        self.assertIsNone(whenever(given, (12, "a", 0), (1, "a", 0)))
        self.assertEqual(whenever(given, (1, "a", 0), (12, "a", 0)), [(1, "a")])
        self.assertIsNone(whenever(given, (1, "a", 2), (1, "a", 2)))

    def test_errors(self):
        self.refuse_each(InvalidHistory, NO_HISTORIES, lambda value: whenever(value, None, None))
        self.refuse_each(UnknownSign, NO_SIGN_NAMES, lambda value: whenever(plain(), value, None))
        self.refuse_each(UnknownSign, NO_SIGN_NAMES, lambda value: whenever(plain(), A, value))


def step_of_trimming(deeds, states):
    """What is left when one more thing has gone that can go, for each such thing, just as [54] tells it."""
    below = naive.rests_on(deeds)
    found = []
    for deed in deeds:
        name = deed[1]
        bearers = [other for other in deeds if name in below[other[1]]]
        if not any(name in state for state in states):
            gone = [name] + [other[1] for other in bearers]
            found.append(([other for other in deeds if other[1] not in gone], states))
        elif deed[0] == "put" and all(other[0] == "drop" for other in bearers):
            if not any(sign[:2] == name for state in states for sign in naive.seen(deeds, state)):
                left = []
                for other in deeds:
                    if other[0] == "drop":
                        other = other[:2] + ([sign for sign in other[2] if sign[:2] != name],)
                    if other != deed and other[2] != []:
                        left.append(other)
                names = [other[1] for other in left]
                found.append((left, [[one for one in state if one in names] for state in states]))
    return found


class TrimmedTest(Case):
    """[54]"""

    def check(self, deeds, states):
        history, left = trimmed(History(deeds), states)
        for turn in (0, -1):
            wanted = (deeds, states)
            steps = step_of_trimming(*wanted)
            while steps:
                wanted = steps[turn]
                steps = step_of_trimming(*wanted)
            self.assertEqual(history, History(wanted[0]))
            self.assertEqual(left, wanted[1])
        self.assertIsInstance(history, History)
        for state, other in zip(states, left):
            self.assertEqual(text_of(history, other), naive.text(deeds, state))
        return history

    def test_all(self):
        sizes = set()
        for seed in range(60):
            deeds = random_deeds(seed, 7, drops=2, longest=2)
            states = naive.states(deeds)
            for many in (0, 1, 2, 3):
                chosen = states[seed % 5::1 + len(states) // 3][:many]
                sizes.add(len(self.check(deeds, chosen).deeds()))
        self.assertTrue({0, 1, 2, 3, 4, 5} <= sizes)

    def test_drops_lose_signs(self):
        signs = [(1, "a", 0), (2, "a", 0), (2, "a", 1)]
        deeds = [("put", (1, "a"), None, "ab"), ("put", (2, "a"), None, "cd"), ("drop", (3, "a"), signs)]
        history = self.check(deeds, [[(1, "a"), (2, "a"), (3, "a")]])
        self.assertEqual(history.deeds(), [deeds[0], ("drop", (3, "a"), [(1, "a", 0)])])
        deeds[2] = ("drop", (3, "a"), signs[1:])
        self.assertEqual(self.check(deeds, [[(1, "a"), (2, "a"), (3, "a")]]).deeds(), deeds[:1])

    def test_puts_go_one_behind_the_other(self):
        deeds = [("put", (1, "a"), None, "a"), ("put", (2, "a"), (1, "a", 0), "b"),
                 ("drop", (3, "a"), [(1, "a", 0), (2, "a", 0)])]
        self.assertEqual(self.check(deeds, [[(1, "a"), (2, "a"), (3, "a")]]).deeds(), [])
        # A put that is not seen stays if one that is seen rests on it.
        deeds[2] = ("drop", (3, "a"), [(1, "a", 0)])
        self.assertEqual(self.check(deeds, [[(1, "a"), (2, "a"), (3, "a")]]).deeds(), deeds)
        # A put that some state sees stays in all.
        self.assertEqual(self.check(deeds, [[(1, "a"), (3, "a")], [(1, "a")]]).deeds(), [deeds[0], deeds[2]])

    def test_edges(self):
        self.assertEqual(trimmed(History([]), []), (History([]), []))
        self.assertEqual(trimmed(plain(), []), (History([]), []))
        self.assertEqual(trimmed(plain(), [[], []]), (History([]), [[], []]))
        self.assertEqual(trimmed(plain(), [[ANN, BOB, DROP]]), (plain(), [[ANN, BOB, DROP]]))
        deeds = mixed(12, 12)
        given = History(deeds)
        self.check(deeds, [whole(given), []])
        self.check(heap(24), [[(24, "a")]])
        hidden = heap(12) + [("drop", (20 + k, "b"), [(k, "a", 0)]) for k in range(1, 13)]
        self.assertEqual(trimmed(History(hidden), [whole(History(hidden))])[0], History([]))

    def test_errors(self):
        self.refuse_each(InvalidHistory, NO_HISTORIES, lambda value: trimmed(value, None))
        self.refuse_each(InvalidList, NO_LISTS + [([],)], lambda value: trimmed(plain(), value))
        self.refuse_each(InvalidItem, no_states(), lambda value: trimmed(plain(), [[], [ANN], value, None]))

    def test_arguments_stay(self):
        state = [ANN, BOB, DROP]
        states = [state, state]
        history, left = trimmed(plain(), states)
        self.assertIsNot(left[0], left[1])
        left[0].clear()
        left.clear()
        history.deeds()[2][2].clear()
        self.assertEqual(states, [[ANN, BOB, DROP], [ANN, BOB, DROP]])
        self.assertEqual(history.deeds(), PLAIN)


class PairsTest(Case):

    def test_if_a_line_stands_in_two_states_it_does_in_their_join(self):
        deeds = random_deeds(5, 7, drops=2, longest=2)
        given = History(deeds)
        for line in naive.lines(deeds, 2):
            found = [state for state in naive.states(deeds) if stands(given, state, line)]
            for one, other in combinations(found, 2):
                self.assertTrue(stands(given, join(given, one, other), line))


if __name__ == "__main__":
    unittest.main()
