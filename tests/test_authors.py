"""[200] to [202]: who did what."""

import unittest
from itertools import combinations
from random import Random

from everrow.authors import alone, brought, by_hands, fewest_hands, turned_by, without
from everrow.errors import InvalidHistory, InvalidItem, InvalidList, InvalidName, InvalidState, InvalidText, UnknownSign
from everrow.history import History, text_of, whole
from tests import naive
from tests.cases import Case
from tests.makers import (
    NO_HISTORIES, NO_LISTS, NO_NAMES, NO_SIGN_NAMES, NO_TEXTS, chain, heap, no_states, plain, random_deeds,
)

ANN, BOB, DROP = (1, "ann"), (2, "bob"), (3, "ann")
HANDS = ["a", "b", "c", "zoe"]


def hand_lists(hands):
    return [list(chosen) for many in range(len(hands) + 1) for chosen in combinations(hands, many)]


def by_alone(state, hands):
    return all(name[1] in hands for name in state)


def histories(many=24, most=7):
    for seed in range(many):
        deeds = random_deeds(seed, seed % most, drops=2 + seed % 2, hands=("a", "b", "c")[:1 + seed % 3])
        yield deeds, History(deeds), [(state, naive.text(deeds, state)) for state in naive.states(deeds)]


class HandsTest(Case):
    """[200]"""

    def test_by_hands(self):
        for deeds, given, shown in histories():
            for state, text in shown:
                told = by_hands(given, state)
                self.assertEqual("".join(part for _, part in told), text)
                self.assertEqual([hand for hand, part in told for _ in part],
                                 [sign[1] for sign in naive.seen(deeds, state)])
                self.assertTrue(all(part for _, part in told))
                self.assertTrue(all(one[0] != other[0] for one, other in zip(told, told[1:])))

    def test_by_hands_edges(self):
        self.assertEqual(by_hands(History([]), []), [])
        self.assertEqual(by_hands(plain(), []), [])
        self.assertEqual(by_hands(History(heap(24, "ab")), whole(History(heap(24)))), [("a", "ab" * 24)])
        # Two puts of one hand that come to stand side by side are one stretch.
        self.assertEqual(by_hands(plain(), [ANN]), [("ann", "ab")])
        self.assertEqual(by_hands(plain(), whole(plain())), [("ann", "a"), ("bob", "x")])

    def test_without_and_alone(self):
        for _, given, shown in histories():
            for state, _ in shown:
                for hand in HANDS:
                    fine = [other for other, _ in shown if set(other) <= set(state)
                            and all(name[1] != hand for name in other)]
                    self.assertEqual(without(given, state, hand), naive.greatest(fine))
            for hands in hand_lists(HANDS):
                wanted = naive.greatest([state for state, _ in shown if by_alone(state, hands)])
                self.assertEqual(alone(given, hands), wanted)
                self.assertEqual(alone(given, hands[::-1]), wanted)

    def test_edges(self):
        # A hand need not have a deed, and no hands have no deeds.
        self.assertEqual(without(plain(), whole(plain()), "zoe"), whole(plain()))
        self.assertEqual((alone(plain(), []), alone(plain(), ["zoe"])), ([], []))
        self.assertEqual((alone(History([]), ["a"]), without(History([]), [], "a")), ([], []))
        self.assertEqual(without(plain(), whole(plain()), "ann"), [])
        self.assertEqual(alone(plain(), ["ann"]), [ANN, DROP])
        self.assertEqual(alone(plain(), ["zoe", "bob", "ann"]), whole(plain()))

    def test_errors(self):
        for call in (by_hands, lambda history, state: without(history, state, None)):
            self.refuse_each(InvalidHistory, NO_HISTORIES, lambda value: call(value, None))
            self.refuse_each(InvalidState, no_states(), lambda value: call(plain(), value))
        self.refuse_each(InvalidName, NO_NAMES, lambda value: without(plain(), [ANN], value))
        for call in (alone, lambda history, hands: brought(history, hands, None)):
            self.refuse_each(InvalidHistory, NO_HISTORIES, lambda value: call(value, None))
            self.refuse_each(InvalidList, NO_LISTS + [("ann",)], lambda value: call(plain(), value))
            self.refuse_each(InvalidItem, NO_NAMES, lambda value: call(plain(), ["ann", value, None]))
            again = "".join(["an", "n"])
            self.refuse(InvalidItem, again, call, plain(), ["ann", "bob", again, None])


class BroughtTest(Case):
    """[201]"""

    def test_all(self):
        for _, given, shown in histories(36):
            texts = {text for _, text in shown} | {"q", "ab"}
            used = sorted({name[1] for name in whole(given)})
            for text in texts:
                found = {}
                for hands in hand_lists(HANDS):
                    fine = [state for state, other in shown if other == text and by_alone(state, hands)]
                    told = brought(given, hands, text)
                    found[tuple(hands)] = told
                    if fine:
                        self.assertIn(told, naive.least(fine))
                    else:
                        self.assertIsNone(told)
                self.check_fewest(given, text, used, found)

    def check_fewest(self, given, text, used, found):
        told = fewest_hands(given, text)
        fine = [hands for hands in hand_lists(used) if found[tuple(hands)] is not None]
        if not fine:
            self.assertIsNone(told)
            self.assertIsNone(found[tuple(HANDS)])
        else:
            self.assertIn(told, fine)
            self.assertEqual(len(told), min(len(hands) for hands in fine))

    def test_14_deeds_and_5_hands(self):
        hands = ("a", "b", "c", "d", "e")
        for seed in range(4):
            deeds = random_deeds(seed, 14, drops=4, letters="ab", hands=hands, longest=2)
            given = History(deeds)
            states = naive.states(deeds)
            texts = [text_of(given, state) for state in states]
            chance = Random(seed)
            for text in chance.sample(texts, 3) + ["", "bbbbbbb"]:
                fine = [state for state, other in zip(states, texts) if other == text]
                told = fewest_hands(given, text)
                self.assertEqual(told is None, not fine)
                if fine:
                    self.assertEqual(len(told), min(len({name[1] for name in state}) for state in fine))
                    state = brought(given, told, text)
                    self.assertEqual((text_of(given, state), by_alone(state, told)), (text, True))
                    self.assertEqual(len(state), min(len(other) for other in fine if by_alone(other, told)))

    def test_edges(self):
        self.assertEqual((brought(plain(), [], ""), fewest_hands(plain(), "")), ([], []))
        self.assertEqual((brought(History([]), ["a"], ""), fewest_hands(History([]), "")), ([], []))
        self.assertEqual((brought(History([]), ["a"], "a"), fewest_hands(History([]), "a")), (None, None))
        self.assertEqual(brought(plain(), ["bob"], "x"), None)
        self.assertEqual(brought(plain(), ["zoe", "ann"], "a"), [ANN, DROP])
        self.assertEqual((fewest_hands(plain(), "a"), fewest_hands(plain(), "axb")), (["ann"], ["ann", "bob"]))
        # As few hands as possible can need more deeds.
        deeds = [("put", (1, "b"), None, "x"), ("put", (1, "a"), None, "y"), ("put", (2, "b"), (1, "b", 0), "zy"),
                 ("drop", (3, "b"), [(2, "b", 0)])]
        self.assertEqual(fewest_hands(History(deeds), "xy"), ["b"])
        self.assertEqual(brought(History(deeds), ["b"], "xy"), [(1, "b"), (2, "b"), (3, "b")])
        self.assertEqual(brought(History(deeds), ["a", "b"], "xy"), [(1, "a"), (1, "b")])

    def test_errors(self):
        self.refuse_each(InvalidHistory, NO_HISTORIES, lambda value: fewest_hands(value, None))
        self.refuse_each(InvalidText, NO_TEXTS, lambda value: fewest_hands(plain(), value))
        self.refuse_each(InvalidText, NO_TEXTS, lambda value: brought(plain(), ["ann"], value))

    def test_lists_stay(self):
        hands = ["bob", "ann"]
        brought(plain(), hands, "ax").clear()
        alone(plain(), hands).clear()
        fewest_hands(plain(), "ax").clear()
        self.assertEqual((hands, fewest_hands(plain(), "ax")), (["bob", "ann"], ["ann", "bob"]))


class TurnedTest(Case):
    """[202]"""

    def test_all(self):
        nothing = found = 0
        for deeds, given, _ in histories(30):
            shown = naive.all_seen(deeds)
            for sign in naive.row(deeds):
                for hand in HANDS:
                    pairs = [(one, other) for one, before in shown for other, after in shown
                             if len(other) == len(one) + 1 and set(one) < set(other)
                             and (set(other) - set(one)).pop()[1] == hand and (sign in before) != (sign in after)]
                    told = turned_by(given, hand, sign)
                    if pairs:
                        found += 1
                        self.assertIn(told, pairs)
                        self.assertEqual(len(told[0]), min(len(one) for one, _ in pairs))
                    else:
                        nothing += 1
                        self.assertIsNone(told)
                    has = sign[1] == hand or any(
                        deed[0] == "drop" and deed[1][1] == hand and sign in deed[2] for deed in deeds)
                    self.assertEqual(told is not None, has)
        self.assertTrue(nothing > 50 and found > 50)

    def test_edges(self):
        self.assertEqual(turned_by(plain(), "ann", (1, "ann", 0)), ([], [ANN]))
        self.assertEqual(turned_by(plain(), "bob", (2, "bob", 0)), ([ANN], [ANN, BOB]))
        self.assertIsNone(turned_by(plain(), "zoe", (1, "ann", 0)))
        self.assertIsNone(turned_by(plain(), "ann", (2, "bob", 0)))
        deeds = [("put", (1, "a"), None, "x"), ("drop", (9, "b"), [(1, "a", 0)]), ("put", (2, "a"), (1, "a", 0), "y"),
                 ("drop", (5, "b"), [(1, "a", 0), (2, "a", 0)])]
        # The drop that rests on less is taken, though it is the later one.
        self.assertEqual(turned_by(History(deeds), "b", (1, "a", 0)), ([(1, "a")], [(1, "a"), (9, "b")]))
        self.assertEqual(turned_by(History(deeds), "b", (2, "a", 0)),
                         ([(1, "a"), (2, "a")], [(1, "a"), (2, "a"), (5, "b")]))
        far = History(chain(24))
        self.assertEqual(turned_by(far, "a", (24, "a", 0)), (whole(far)[:23], whole(far)))

    def test_errors(self):
        self.refuse_each(InvalidHistory, NO_HISTORIES, lambda value: turned_by(value, None, None))
        self.refuse_each(InvalidName, NO_NAMES, lambda value: turned_by(plain(), value, None))
        self.refuse_each(UnknownSign, NO_SIGN_NAMES, lambda value: turned_by(plain(), "ann", value))


if __name__ == "__main__":
    unittest.main()
