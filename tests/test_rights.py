"""[203] to [205]: bars, and a desk."""

import unittest
from itertools import combinations, combinations_with_replacement, product
from random import Random

from everrow.errors import (
    InvalidHistory, InvalidItem, InvalidList, InvalidMark, InvalidName, InvalidNumber, InvalidState, NothingToUndo,
)
from everrow.history import History, deed_names, whole
from everrow.rights import Desk, breaks, fewest_bars, granted, is_granted, parting_deed, same_bars
from tests import naive
from tests.cases import Case
from tests.makers import (
    NO_HISTORIES, NO_LISTS, NO_NAMES, NO_NUMBERS, PLAIN, chain, heap, mixed, no_states, plain, random_deeds,
)
from tests.test_journal import NO_DEEDS
from tests.test_marks import A, ANN, B, BOB, DROP, FIRST, LAST, X, all_marks, amid, no_selections

HANDS = ["a", "b", "zoe"]


def no_bars():
    """Values that are no bars of the plain history."""
    return [(name, (FIRST, LAST)) for name in NO_NAMES] + [("ann", value) for value in no_selections()] + [
        None, True, 0, "ann", [], (), ("ann",), ["ann", (FIRST, LAST)], ("ann", FIRST, LAST), {},
        ("ann", (FIRST, LAST), 1)]


def held(deeds, bar):
    """The signs that a bar holds in a history."""
    one, other = bar[1]
    return [sign for sign in amid(deeds, other) if sign not in amid(deeds, one)]


def does_break(deeds, bars, deed):
    signs = [(*deed[1], at) for at in range(len(deed[3]))] if deed[0] == "put" else deed[2]
    return any(hand == deed[1][1] and any(sign in held(deeds, (hand, selection)) for sign in signs)
               for hand, selection in bars)


def naive_breaks(deeds, bars):
    return sorted(deed[1] for deed in deeds if does_break(deeds, bars, deed))


def random_bars(chance, deeds, most=4):
    marks = all_marks(deeds)
    found = []
    for _ in range(chance.randint(0, most)):
        first, last = sorted([chance.randrange(len(marks)), chance.randrange(len(marks))])
        found.append((chance.choice(HANDS), (marks[first], marks[last])))
    return found


def coming(deeds, hands):
    """Deeds that can come next: puts behind each sign, or on nothing, and drops of each sign, with all numbers."""
    taken = {deed[1] for deed in deeds}
    top = max([deed[1][0] for deed in deeds], default=0) + 1
    for hand, number in product(hands, range(1, top + 2)):
        if (number, hand) not in taken:
            yield ("put", (number, hand), None, "q")
            for sign in naive.row(deeds):
                if sign[0] < number:
                    yield ("put", (number, hand), sign, "qq")
                    yield ("drop", (number, hand), [sign])


def unlike_deeds(deeds, one, other, hands=("a", "b", "zoe", "new")):
    """All deeds, of those there and those that can come next, that break some bar of just one of two lists."""
    found = [deed for deed in deeds if does_break(deeds, one, deed) != does_break(deeds, other, deed)]
    for deed in coming(deeds, hands):
        more = deeds + [deed]
        if does_break(more, one, deed) != does_break(more, other, deed):
            found.append(deed)
    return found


def small_histories(many, most=4):
    for seed in range(many):
        yield random_deeds(seed, seed % (most + 1), drops=3, hands=("a", "b"), longest=2), Random(seed)


class BreaksTest(Case):
    """[203]"""

    def test_all(self):
        found = 0
        for deeds, chance in small_histories(120, 7):
            given, states = History(deeds), naive.states(deeds)
            for _ in range(4):
                bars = random_bars(chance, deeds)
                broken = naive_breaks(deeds, bars)
                self.assertEqual(breaks(given, bars), broken)
                fine = [state for state in states if not set(state) & set(broken)]
                self.assertEqual(granted(given, bars), naive.greatest(fine))
                for state in states:
                    self.assertIs(is_granted(given, bars, state), state in fine)
                    self.assertEqual(state in fine, set(state) <= set(granted(given, bars)))
                found += len(broken)
        self.assertGreater(found, 100)

    def test_in_a_larger_history_it_is_the_same(self):
        for deeds, chance in small_histories(60, 6):
            bars = random_bars(chance, deeds)
            given = naive_breaks(deeds, bars)
            more = list(deeds)
            for _ in range(3):
                more.append(chance.choice(list(coming(more, ["a", "b"]))))
            self.assertEqual([name for name in breaks(History(more), bars) if name in [deed[1] for deed in deeds]],
                             given)

    def test_edges(self):
        self.assertEqual((breaks(History([]), []), granted(History([]), []), is_granted(History([]), [], [])),
                         ([], [], True))
        everything = [("ann", (FIRST, LAST))]
        self.assertEqual((breaks(plain(), everything), granted(plain(), everything)), ([ANN, DROP], []))
        self.assertEqual(breaks(plain(), [("bob", (FIRST, LAST))]), [BOB])
        self.assertEqual(breaks(plain(), [("zoe", (FIRST, LAST))]), [])
        # Bars that hold nothing.
        for selection in ((FIRST, FIRST), (LAST, LAST), (FIRST, ("ahead", A)), (("behind", A), ("ahead", X)),
                          (("behind", B), LAST), (("ahead", B), ("ahead", B))):
            self.assertEqual(breaks(plain(), [("ann", selection), ("bob", selection)]), [])
        # A put with one sign that lies there, a drop that names one.
        self.assertEqual(breaks(plain(), [("ann", (("ahead", B), ("behind", B)))]), [ANN, DROP])
        self.assertEqual(breaks(plain(), [("ann", (("ahead", A), ("behind", A)))]), [ANN])
        self.assertEqual(granted(plain(), [("ann", (("ahead", B), LAST)), ("bob", (FIRST, LAST))]), [])
        self.assertEqual(granted(plain(), [("bob", (FIRST, LAST))]), [ANN, DROP])
        self.assertIs(is_granted(plain(), [("bob", (FIRST, LAST))], [ANN, BOB]), False)
        self.assertIs(is_granted(plain(), [("bob", (FIRST, LAST))], [ANN]), True)

    def test_errors(self):
        calls = [breaks, granted, fewest_bars, lambda history, bars: is_granted(history, bars, None),
                 lambda history, bars: same_bars(history, bars, None),
                 lambda history, bars: parting_deed(history, bars, None),
                 lambda history, bars: same_bars(history, [], bars),
                 lambda history, bars: parting_deed(history, [], bars)]
        for call in calls:
            self.refuse_each(InvalidHistory, NO_HISTORIES, lambda value: call(value, None))
            self.refuse_each(InvalidList, NO_LISTS + [(("ann", (FIRST, LAST)),)], lambda value: call(plain(), value))
            self.refuse_each(InvalidItem, no_bars(), lambda value: call(plain(), [("ann", (FIRST, LAST)), value, None]))
        self.refuse_each(InvalidState, no_states(), lambda value: is_granted(plain(), [], value))


class AlikeTest(Case):
    """[204]"""

    def test_all(self):
        kinds = {True: 0, False: 0}
        for deeds, chance in small_histories(150):
            given = History(deeds)
            for _ in range(3):
                one = random_bars(chance, deeds, 3)
                other = random_bars(chance, deeds, 3) if chance.random() < 0.3 else self.much_alike(chance, deeds, one)
                self.check(given, deeds, one, other)
                kinds[same_bars(given, one, other)] += 1
        self.assertGreater(min(kinds.values()), 100)

    def much_alike(self, chance, deeds, bars):
        """Bars that hold the same, or nearly so."""
        marks, found = all_marks(deeds), []
        for hand, (first, last) in bars:
            low, high = marks.index(first), marks.index(last)
            middle = chance.randint(low, high)
            found += [(hand, (first, marks[middle])), (hand, (marks[max(low, middle - chance.randint(0, 1))], last))]
        if chance.random() < 0.5:
            found.append((chance.choice(HANDS), (FIRST, FIRST)))
        if found and chance.random() < 0.3:
            found.pop(chance.randrange(len(found)))
        chance.shuffle(found)
        return found

    def check(self, given, deeds, one, other):
        unlike = unlike_deeds(deeds, one, other)
        self.assertIs(same_bars(given, one, other), not unlike)
        told = parting_deed(given, one, other)
        if not unlike:
            self.assertIsNone(told)
            return
        self.assertEqual(told[1][0], max([deed[1][0] for deed in deeds], default=0) + 1)
        more = deeds + [told]
        # A history can be made with it, in which it breaks some bar of just one of the two.
        self.assertIn(told[1], deed_names(History(more)))
        self.assertNotEqual(does_break(more, one, told), does_break(more, other, told))

    def test_two_deeds_more_tell_no_more(self):
        for deeds, chance in small_histories(40, 2):
            given = History(deeds)
            one = random_bars(chance, deeds, 2)
            other = self.much_alike(chance, deeds, one)
            if same_bars(given, one, other):
                for first in coming(deeds, ["a"]):
                    for second in coming(deeds + [first], ["a"]):
                        more = deeds + [first, second]
                        self.assertEqual(naive_breaks(more, one), naive_breaks(more, other))

    def test_fewest(self):
        for deeds, chance in small_histories(120):
            given = History(deeds)
            for _ in range(3):
                bars = random_bars(chance, deeds, 5)
                told = fewest_bars(given, bars)
                self.assertEqual(unlike_deeds(deeds, told, bars), [])
                self.assertEqual([bar[0] for bar in told], sorted(bar[0] for bar in told))
                order = all_marks(deeds)
                for one, other in zip(told, told[1:]):
                    self.assertTrue(one[0] < other[0] or order.index(one[1][1]) < order.index(other[1][0]))
                self.assertEqual(fewest_bars(given, told), told)
                self.assertEqual(fewest_bars(given, bars[::-1] + bars), told)

    def test_no_fewer(self):
        """Of all lists of as many bars of one hand just this one is alike, and of fewer none."""
        checked = {}
        for deeds, chance in small_histories(60, 2):
            given, order = History(deeds), all_marks(deeds)
            selections = list(combinations_with_replacement(order, 2))
            bars = [("a", chance.choice(selections)) for _ in range(chance.randint(0, 4))]
            told = fewest_bars(given, bars)
            if len(told) > 2:
                continue
            for many in range(len(told) + 1):
                for chosen in combinations(selections, many):
                    other = [("a", selection) for selection in chosen]
                    if same_bars(given, bars, other):
                        self.assertEqual(sorted(other, key=lambda bar: order.index(bar[1][0])), told)
            checked[len(told)] = checked.get(len(told), 0) + 1
        self.assertTrue(all(checked.get(many, 0) > 2 for many in range(3)), checked)

    def test_edges(self):
        empty = History([])
        self.assertTrue(same_bars(empty, [], [("a", (FIRST, FIRST)), ("b", (LAST, LAST))]))
        self.assertFalse(same_bars(empty, [], [("a", (FIRST, LAST))]))
        self.assertEqual(parting_deed(empty, [("a", (FIRST, LAST))], [])[1], (1, "a"))
        self.assertIsNone(parting_deed(empty, [], []))
        self.assertEqual(fewest_bars(empty, [("b", (FIRST, LAST)), ("a", (FIRST, LAST)), ("b", (FIRST, LAST))]),
                         [("a", (FIRST, LAST)), ("b", (FIRST, LAST))])
        # Bars of one hand that touch are one, those of two hands are not.
        one, two = (FIRST, ("behind", A)), (("behind", A), LAST)
        self.assertEqual(fewest_bars(plain(), [("ann", two), ("ann", one)]), [("ann", (FIRST, LAST))])
        self.assertEqual(fewest_bars(plain(), [("bob", one), ("ann", two)]), [("ann", two), ("bob", one)])
        # Between these lies a gap into which signs can come, or a sign.
        apart = [("ann", (FIRST, ("behind", A))), ("ann", (("ahead", X), LAST))]
        self.assertEqual(fewest_bars(plain(), apart[::-1]), apart)
        told = parting_deed(plain(), apart, [("ann", (FIRST, LAST))])
        self.assertEqual(told[:3], ("put", (4, "ann"), A))
        apart = [("ann", (FIRST, ("ahead", X))), ("ann", (("behind", X), LAST))]
        self.assertEqual(fewest_bars(plain(), apart), apart)
        self.assertEqual(parting_deed(plain(), apart, [("ann", (FIRST, LAST))]), ("drop", (4, "ann"), [X]))
        self.assertFalse(same_bars(plain(), apart, [("ann", (FIRST, LAST))]))
        # Equal bars and such that overlap.
        self.assertTrue(same_bars(plain(), [("ann", one)] * 2, [("ann", one), ("ann", (FIRST, ("ahead", A)))]))

    def test_23_deeds(self):
        for deeds in (heap(23, "ab"), chain(23, "ab"), mixed(12, 11)):
            given = History(deeds)
            signs = naive.row(deeds)
            bars = [("a", (("ahead", sign), ("behind", sign))) for sign in signs]
            told = fewest_bars(given, bars)
            self.assertEqual(told, bars)
            whole_bar = [("a", (("ahead", signs[0]), ("behind", signs[-1])))]
            deed = parting_deed(given, bars, whole_bar)
            self.assertEqual(len(History(deeds + [deed]).deeds()), 24)
            self.assertEqual(breaks(History(deeds + [deed]), whole_bar)[-1], deed[1])
            self.assertNotIn(deed[1], breaks(History(deeds + [deed]), bars))

    def test_lists_stay(self):
        bars = [("ann", (FIRST, LAST)), ("bob", (FIRST, LAST))]
        for call in (breaks, granted, fewest_bars):
            call(plain(), bars).clear()
        parting_deed(plain(), bars, [("ann", (("ahead", A), ("behind", A)))])
        self.assertEqual(bars, [("ann", (FIRST, LAST)), ("bob", (FIRST, LAST))])


class DeskTest(Case):
    """[205]"""

    def told(self, desk):
        return (desk.history().deeds(), desk.bars())

    def test_step_by_step(self):
        """Held against a list of all that was there."""
        done = {"bar": 0, "lift": 0, "take": 0, "refused": 0, "back": 0}
        for deeds, chance in small_histories(60, 3):
            desk, rows = Desk(History(deeds)), [(list(deeds), [])]
            for _ in range(25):
                there, bars = rows[-1]
                word = chance.choice(["bar", "lift", "take", "take", "back"])
                if word == "bar":
                    bar = (random_bars(chance, there, 1) or [("a", (FIRST, LAST))])[0]
                    self.assertIsNone(desk.bar(*bar))
                    rows.append((there, bars + [bar]))
                elif word == "lift" and bars:
                    at = chance.randrange(len(bars))
                    self.assertIsNone(desk.lift(at))
                    rows.append((there, bars[:at] + bars[at + 1:]))
                elif word == "take":
                    deed = chance.choice(list(coming(there, ["a", "b"])))
                    if does_break(there + [deed], bars, deed):
                        word = "refused"
                        self.refuse(InvalidItem, deed, desk.take, deed)
                    else:
                        self.assertIsNone(desk.take(deed))
                        rows.append((there + [deed], bars))
                elif word == "back" and len(rows) > 1:
                    self.assertIsNone(desk.back())
                    rows.pop()
                done[word] += 1
                self.assertEqual(self.told(desk), (sorted(rows[-1][0], key=naive.name_of), rows[-1][1]))
                self.assertTrue(is_granted(desk.history(), [], whole(desk.history())))
            for _ in rows[1:]:
                desk.back()
            self.assertEqual(self.told(desk), (sorted(deeds, key=naive.name_of), []))
            self.nothing(desk)
        self.assertTrue(min(done.values()) > 30, done)

    def nothing(self, desk):
        with self.assertRaises(NothingToUndo) as caught:
            desk.back()
        self.assertIs(type(caught.exception), NothingToUndo)

    def test_bars_do_not_bar_what_is_there(self):
        desk = Desk(plain())
        desk.bar("ann", (FIRST, LAST))
        self.assertEqual(desk.history(), plain())
        put = ("put", (7, "ann"), A, "q")
        self.refuse(InvalidItem, put, desk.take, put)
        other = ("put", (7, "bob"), A, "q")
        desk.take(other)
        desk.lift(0)
        desk.take(put)
        self.assertEqual(desk.history(), History(PLAIN + [other, put]))
        # A bar of a sign that was taken in goes when it goes.
        desk.bar("bob", (("ahead", (7, "ann", 0)), LAST))
        for bars in ([], [], [("ann", (FIRST, LAST))], [("ann", (FIRST, LAST))], []):
            desk.back()
            self.assertEqual(desk.bars(), bars)
        self.assertEqual(self.told(desk), (plain().deeds(), []))
        self.nothing(desk)

    def test_what_raised_an_error_is_not_undone(self):
        desk = Desk(plain())
        self.nothing(desk)
        self.refuse(InvalidName, "", desk.bar, "", (FIRST, LAST))
        self.refuse(InvalidNumber, 0, desk.lift, 0)
        self.refuse(InvalidItem, None, desk.take, None)
        self.nothing(desk)
        desk.bar("ann", (FIRST, LAST))
        self.refuse(InvalidNumber, 1, desk.lift, 1)
        desk.back()
        self.nothing(desk)
        self.assertEqual(desk.bars(), [])
        # Equal bars are two.
        desk.bar("ann", (FIRST, LAST))
        desk.bar("ann", (FIRST, LAST))
        desk.lift(1)
        self.assertEqual(len(desk.bars()), 1)
        desk.back()
        self.assertEqual(len(desk.bars()), 2)

    def test_24_deeds(self):
        desk = Desk(History(heap(23)))
        last = ("put", (24, "a"), None, "b")
        desk.take(last)
        self.assertEqual(len(desk.history().deeds()), 24)
        more = ("put", (25, "a"), None, "b")
        self.refuse(InvalidItem, more, desk.take, more)
        desk.back()
        desk.take(more)
        self.assertEqual(desk.history().deeds()[-1], more)

    def test_errors(self):
        self.refuse_each(InvalidHistory, NO_HISTORIES, Desk)
        desk = Desk(plain())
        desk.bar("bob", (FIRST, ("ahead", A)))
        desk.bar("zoe", (FIRST, LAST))
        before = self.told(desk)
        self.refuse_each(InvalidName, NO_NAMES, lambda value: desk.bar(value, None))
        self.refuse_each(InvalidMark, no_selections(), lambda value: desk.bar("ann", value))
        self.refuse_each(InvalidNumber, NO_NUMBERS + [-1, 2], desk.lift)
        wrong = NO_DEEDS + [PLAIN[0], ("put", ANN, None, "ab"), ("drop", BOB, [A]),
                            ("put", (2, "cy"), (2, "bob", 0), "x"),
                            ("put", (9, "cy"), (8, "cy", 0), "x"), ("put", (9, "cy"), (1, "ann", 2), "x"),
                            ("put", (9, "cy"), (3, "ann", 0), "x"), ("drop", (1, "cy"), [A]), ("drop", (9, "zoe"), [B])]
        self.refuse_each(InvalidItem, wrong, desk.take)
        self.assertEqual(self.told(desk), before)
        desk.back()
        desk.back()
        self.nothing(desk)

    def test_lists_stay(self):
        desk = Desk(plain())
        signs = [A]
        drop = ("drop", (9, "cy"), signs)
        desk.take(drop)
        signs.append(B)
        desk.bar("ann", (FIRST, LAST))
        desk.bars().clear()
        desk.history().deeds()[-1][2].clear()
        self.assertEqual(self.told(desk), (plain().deeds() + [("drop", (9, "cy"), [A])], [("ann", (FIRST, LAST))]))
        # The desk and what it told go apart.
        before = desk.history()
        desk.back()
        desk.back()
        self.assertEqual((len(before.deeds()), desk.history()), (4, plain()))


if __name__ == "__main__":
    unittest.main()
