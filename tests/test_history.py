"""[10] to [16]: histories."""

import unittest

from everrow.errors import (
    InvalidHistory, InvalidItem, InvalidList, InvalidState, UnknownDeed, UnknownSign,
)
from everrow.history import (
    History, ahead_of, bears, closure, deed_named, deed_names, ever_row, heart, is_state, rests, seen, sign_of, text_of,
    whole,
)
from tests import naive
from tests.cases import Case
from tests.makers import (
    NO_DEED_NAMES, NO_HISTORIES, NO_LISTS, NO_SIGN_NAMES, PLAIN, chain, heap, mixed, no_states, plain, random_deeds,
)

BIG = 10 ** 18


class DeedsTest(Case):
    """[10]: what a deed is, as a history takes it or refuses it."""

    def accept(self, *deeds):
        self.assertEqual(len(History(list(deeds)).deeds()), len(deeds))

    def no_deed(self, deed, *others):
        self.refuse(InvalidItem, deed, lambda: History(list(others) + [deed]))

    def test_numbers(self):
        self.accept(("put", (1, "a"), None, "x"), ("put", (BIG, "a"), None, "x"))
        for number in (0, -1, BIG + 1, True, False, "1", None, (1,), 1.0):
            self.no_deed(("put", (number, "a"), None, "x"))

    def test_hands(self):
        self.accept(("put", (1, "a"), None, "x"), ("put", (1, "abcdefgz"), None, "x"))
        for hand in ("", "abcdefghi", "A", "a1", "a b", "a_", "\u00e4", "a\n", None, True, 1, ["a"], ("a",)):
            self.no_deed(("put", (1, hand), None, "x"))

    def test_deed_names(self):
        for name in (None, 1, "a", [1, "a"], (1,), (1, "a", 0), ("a", 1), ()):
            self.no_deed(("put", name, None, "x"))
            self.no_deed(("drop", name, [(1, "a", 0)]), ("put", (1, "a"), None, "x"))

    def test_texts(self):
        self.accept(("put", (1, "a"), None, "x"), ("put", (2, "a"), None, "a z\n b"))
        for text in ("", "abcdefg", "A", "a.", "\t", "\r", "~", "\u00e9", "1", None, True, 1, ["a"], ("a",), b"a"):
            self.no_deed(("put", (1, "a"), None, text))

    def test_anchors(self):
        first = ("put", (1, "a"), None, "abcdef")
        for at in range(6):
            self.accept(first, ("put", (2, "a"), (1, "a", at), "x"))
        for anchor in (0, True, "a", (), (1, "a"), [1, "a", 0], (1, "a", True), (1, "a", 6), (1, "a", -1),
                       (True, "a", 0), (1, "A", 0), ((1, "a"), 0), (1, "a", 0, 0)):
            self.no_deed(("put", (2, "a"), anchor, "x"), first)

    def test_signs_of_drops(self):
        first = ("put", (1, "a"), None, "abcdef")
        whole_put = [(1, "a", at) for at in range(6)]
        self.accept(first, ("drop", (2, "a"), whole_put))
        self.no_deed(("drop", (3, "a"), [(1, "a", 0), None]), first)
        self.no_deed(("drop", (3, "a"), [True, (1, "a", 0)]), first)
        self.accept(first, ("drop", (2, "a"), whole_put[5:]))
        second = ("put", (2, "a"), None, "x")
        for signs in ([], whole_put + [(2, "a", 0)], tuple(whole_put), None, True, {}, "a", [None], [(1, "a")],
                      [[1, "a", 0]], [(1, "a", True)], [(1, "a", 6)], [(1, "a", 1), (1, "a", 0)],
                      [(1, "a", 0), (1, "a", 0)], [(2, "a", 0), (1, "a", 0)]):
            self.no_deed(("drop", (3, "a"), signs), first, second)

    def test_forms(self):
        first = ("put", (1, "a"), None, "x")
        for word in ("Drop", "put", "", None, True, ["drop"]):
            self.no_deed((word, (2, "a"), [(1, "a", 0)]), first)
        for deed in (None, True, 0, "put", [], {}, (), ("put",), ["put", (1, "a"), None, "x"],
                     ("put", (1, "a"), None), ("put", (1, "a"), None, "x", 1), ("Put", (1, "a"), None, "x"),
                     ("drop", (1, "a"), None, "x"), (None, (1, "a"), None, "x"), (["put"], (1, "a"), None, "x"),
                     ("drop", (1, "a")), plain()):
            self.no_deed(deed)


class MakingTest(Case):
    """[11]: which lists a history is made of."""

    def test_no_list(self):
        self.refuse_each(InvalidList, NO_LISTS + [tuple(PLAIN), plain(), {"deeds": PLAIN}], History)

    def test_sizes(self):
        self.assertEqual(History([]).deeds(), [])
        self.assertEqual(len(History(heap(24)).deeds()), 24)
        for deeds in (heap(25), [None] * 25):
            self.refuse(InvalidList, deeds, lambda: History(deeds))

    def assert_item(self, deeds, at):
        self.refuse(InvalidItem, deeds[at], lambda: History(deeds))

    def test_names_once(self):
        self.assert_item(PLAIN + [("put", (1, "ann"), None, "z")], 3)
        self.assert_item([PLAIN[0], tuple(list(PLAIN[0]))], 1)
        self.assert_item(PLAIN + [("drop", (2, "bob"), [(1, "ann", 0)])], 3)
        # Hands apart, numbers may be equal.
        self.assertEqual(len(History([("put", (1, "a"), None, "x"), ("put", (1, "b"), None, "x")]).deeds()), 2)

    def test_named_signs_are_there(self):
        self.assert_item([("put", (2, "a"), (1, "a", 0), "x")], 0)
        self.assert_item(PLAIN + [("put", (4, "a"), (1, "ann", 2), "x")], 3)
        self.assert_item(PLAIN + [("put", (4, "a"), (3, "ann", 0), "x")], 3)
        self.assert_item(PLAIN + [("drop", (4, "a"), [(1, "ann", 0), (1, "ann", 2)])], 3)
        self.assert_item([PLAIN[2], PLAIN[1], PLAIN[0], ("drop", (4, "a"), [(2, "bob", 1)])], 3)

    def test_numbers_are_greater(self):
        self.assert_item([("put", (1, "a"), None, "x"), ("put", (1, "b"), (1, "a", 0), "x")], 1)
        self.assert_item([("put", (2, "a"), None, "x"), ("put", (1, "b"), (2, "a", 0), "x")], 1)
        self.assert_item([("put", (1, "a"), (1, "a", 0), "x")], 0)
        puts = [("put", (1, "a"), None, "x"), ("put", (5, "a"), None, "x")]
        self.assert_item(puts + [("drop", (5, "b"), [(1, "a", 0), (5, "a", 0)])], 2)

    def test_no_deeds_come_before_no_fit(self):
        # There is no place 6 at all, so this is no deed, whatever puts there are.
        self.assert_item([("put", (2, "a"), (1, "a", 6), "x"), None], 0)
        self.assert_item([("put", (2, "a"), (1, "a", 0), "x"), None], 1)
        self.assert_item([("put", (2, "a"), (1, "a", 0), "x"), PLAIN[0], PLAIN[0]], 2)
        self.assert_item([None, True], 0)

    def test_deeds_in_order(self):
        for deeds in (PLAIN, PLAIN[::-1], [PLAIN[1], PLAIN[2], PLAIN[0]]):
            self.assertEqual(History(deeds).deeds(), PLAIN)
        deeds = [("put", (10, "a"), None, "x"), ("put", (9, "b"), None, "x"), ("put", (9, "a"), None, "x")]
        self.assertEqual(History(deeds).deeds(), deeds[::-1])

    def test_equality(self):
        self.assertTrue(plain() == History(PLAIN[::-1]))
        self.assertFalse(plain() != History(PLAIN[::-1]))
        for deeds in ([], PLAIN[:2], PLAIN[:2] + [("drop", (3, "ann"), [(1, "ann", 0)])],
                      [("put", (1, "ann"), None, "ac")] + PLAIN[1:]):
            self.assertFalse(plain() == History(deeds))
        for value in (None, PLAIN, tuple(PLAIN), "x", 1):
            self.assertFalse(plain() == value)
            self.assertFalse(value == plain())

    def test_lists_changed_behind_a_call(self):
        signs = [(1, "ann", 1)]
        deeds = PLAIN[:2] + [("drop", (3, "ann"), signs)]
        given = History(deeds)
        deeds.pop()
        signs[0] = (1, "ann", 0)
        self.assertEqual(given.deeds(), PLAIN)
        self.assertEqual(text_of(given, whole(given)), "ax")

    def test_returned_lists_are_the_callers(self):
        given = plain()
        given.deeds()[2][2].append("x")
        given.deeds().clear()
        deed_named(given, (3, "ann"))[2].clear()
        for made in (deed_names, ever_row, whole):
            made(given).clear()
        for made in (rests, bears):
            made(given, (1, "ann")).append(1)
        self.assertEqual(given.deeds(), PLAIN)
        self.assertEqual(len(ever_row(given)), 3)
        self.assertEqual(whole(given), [(1, "ann"), (2, "bob"), (3, "ann")])
        self.assertEqual(rests(given, (3, "ann")), [(1, "ann")])


class RestsTest(Case):
    """[12]"""

    def test_plain(self):
        given = plain()
        self.assertEqual(deed_names(given), [(1, "ann"), (2, "bob"), (3, "ann")])
        self.assertEqual([deed_named(given, deed[1]) for deed in PLAIN], PLAIN)
        self.assertEqual(rests(given, (1, "ann")), [])
        self.assertEqual(bears(given, (1, "ann")), [(2, "bob"), (3, "ann")])
        self.assertEqual(bears(given, (3, "ann")), [])

    def test_far(self):
        deeds = chain(24)
        given = History(deeds)
        self.assertEqual(rests(given, (24, "a")), [(k, "a") for k in range(1, 24)])
        self.assertEqual(bears(given, (1, "a")), [(k, "a") for k in range(2, 25)])

    def test_all(self):
        for seed in range(60):
            deeds = random_deeds(seed, 1 + seed % 12)
            given = History(deeds)
            below = naive.rests_on(deeds)
            self.assertEqual(deed_names(given), sorted(below))
            for deed in deeds:
                self.assertEqual(deed_named(given, deed[1]), deed)
                self.assertEqual(rests(given, deed[1]), sorted(below[deed[1]]))
                self.assertEqual(bears(given, deed[1]), sorted(name for name in below if deed[1] in below[name]))

    def test_errors(self):
        for call in (deed_named, rests, bears):
            self.refuse_each(InvalidHistory, NO_HISTORIES, lambda value: call(value, None))
            self.refuse_each(UnknownDeed, NO_DEED_NAMES, lambda value: call(plain(), value))
        self.refuse_each(InvalidHistory, NO_HISTORIES, deed_names)


class RowTest(Case):
    """[13]"""

    def test_greater_names_come_first(self):
        deeds = [("put", (1, "a"), None, "ab"), ("put", (2, "a"), (1, "a", 0), "c"),
                 ("put", (2, "b"), (1, "a", 0), "d"), ("put", (3, "a"), (2, "a", 0), "e"), ("put", (1, "b"), None, "f")]
        given = History(deeds)
        self.assertEqual("".join(sign_of(given, sign) for sign in ever_row(given)), "fadceb")

    def test_all(self):
        for seed in range(80):
            deeds = random_deeds(seed, seed % 15, longest=6)
            given = History(deeds)
            order = ever_row(given)
            self.assertEqual(order, naive.row(deeds))
            self.assertEqual({sign: sign_of(given, sign) for sign in order}, naive.signs(deeds))

    def test_of_a_larger_history(self):
        for seed in range(40):
            deeds = sorted(random_deeds(seed, 10), key=naive.name_of)
            order = ever_row(History(deeds))
            for size in range(10):
                smaller = ever_row(History(deeds[:size]))
                self.assertEqual(smaller, [sign for sign in order if sign in smaller])

    def test_empty_and_long(self):
        self.assertEqual(ever_row(History([])), [])
        given = History(chain(24, "abcdef"))
        self.assertEqual(ever_row(given), [(k, "a", at) for k in range(1, 25) for at in range(6)])

    def test_errors(self):
        self.refuse_each(InvalidHistory, NO_HISTORIES, ever_row)
        self.refuse_each(InvalidHistory, NO_HISTORIES, lambda value: sign_of(value, None))
        self.refuse_each(UnknownSign, NO_SIGN_NAMES, lambda value: sign_of(plain(), value))


class StatesTest(Case):
    """[14]"""

    def test_is_state(self):
        for value in no_states():
            self.assertIs(is_state(plain(), value), False)
        for value in naive.states(PLAIN):
            self.assertIs(is_state(plain(), value), True)

    def test_a_state_of_another_history_is_none(self):
        self.assertFalse(is_state(History(PLAIN[:1]), [(1, "ann"), (2, "bob")]))

    def test_is_state_of_all_lists(self):
        for seed in range(12):
            deeds = random_deeds(seed, 6)
            given = History(deeds)
            names = deed_names(given)
            found = []
            for mask in range(1 << 6):
                value = [name for k, name in enumerate(names) if mask >> k & 1]
                if is_state(given, value):
                    found.append(value)
                if len(value) > 1:
                    self.assertFalse(is_state(given, value[::-1]))
            self.assertEqual(sorted(found), naive.states(deeds))

    def test_whole(self):
        self.assertEqual(whole(History([])), [])
        self.assertEqual(whole(History(heap(24)[::-1])), [(k, "a") for k in range(1, 25)])

    def test_closure_and_heart(self):
        for seed in range(30):
            deeds = random_deeds(seed, 6)
            given = History(deeds)
            states = naive.states(deeds)
            names = deed_names(given)
            for mask in range(1 << 6):
                listed = [name for k, name in enumerate(names) if mask >> k & 1]
                listed = listed[seed % 3:] + listed[:seed % 3]
                above = [state for state in states if set(listed) <= set(state)]
                within = [state for state in states if set(state) <= set(listed)]
                self.assertEqual(closure(given, listed), min(above, key=len))
                self.assertEqual(heart(given, listed), max(within, key=len))
                self.assertTrue(all(set(closure(given, listed)) <= set(state) for state in above))
                self.assertEqual(heart(given, listed), naive.greatest(within))

    def test_edges(self):
        given = History(chain(24))
        self.assertEqual(closure(given, []), [])
        self.assertEqual(heart(given, []), [])
        self.assertEqual(closure(given, [(24, "a")]), whole(given))
        self.assertEqual(heart(given, whole(given)[:0:-1]), [])
        self.assertEqual(heart(given, whole(given)[::-1]), whole(given))

    def test_errors(self):
        given = plain()
        for call in (closure, heart):
            self.refuse_each(InvalidHistory, NO_HISTORIES, lambda value: call(value, None))
            self.refuse_each(InvalidList, NO_LISTS, lambda value: call(given, value))
            self.refuse_each(UnknownDeed, NO_DEED_NAMES, lambda value: call(given, [(1, "ann"), value, (1, "ann")]))
            for name in deed_names(given):
                again = tuple(list(name))
                self.refuse(InvalidItem, again, lambda: call(given, deed_names(given) + [again, None]))
        self.refuse_each(InvalidHistory, NO_HISTORIES, lambda value: is_state(value, []))
        self.refuse_each(InvalidHistory, NO_HISTORIES, lambda value: whole(value))

    def test_arguments_stay(self):
        listed = [(3, "ann"), (2, "bob")]
        closure(plain(), listed)
        heart(plain(), listed)
        self.assertEqual(listed, [(3, "ann"), (2, "bob")])


class SeenTest(Case):
    """[15] and [16]"""

    def test_all(self):
        for seed in range(30):
            deeds = random_deeds(seed, seed % 8)
            given = History(deeds)
            order = naive.row(deeds)
            for state, shown in naive.all_seen(deeds):
                self.assertEqual(seen(given, state), shown)
                self.assertEqual(text_of(given, state), naive.text(deeds, state))
                for place, sign in enumerate(order):
                    ahead = len([other for other in shown if other in order[:place]])
                    self.assertEqual(ahead_of(given, state, sign), ahead)

    def test_edges(self):
        empty = History([])
        self.assertEqual((seen(empty, []), text_of(empty, [])), ([], ""))
        deeds = mixed(12, 12)
        given = History(deeds)
        self.assertEqual(text_of(given, whole(given)), naive.text(deeds, whole(given)))
        self.assertEqual(len(text_of(given, whole(given))), 60)
        self.assertEqual(ahead_of(given, whole(given), (12, "a", 5)), 59)
        self.assertEqual(ahead_of(given, [], (12, "a", 5)), 0)
        self.assertEqual(ahead_of(given, whole(given), (1, "a", 2)), 2)
        self.assertEqual(ahead_of(given, whole(given), (1, "a", 3)), 2)

    def test_where_a_later_put_shows(self):
        for seed in range(20):
            deeds = random_deeds(seed, 6)
            given = History(deeds)
            for state, shown in naive.all_seen(deeds):
                name = (max([deed[1][0] for deed in deeds]) + 1, "z")
                text = text_of(given, state)
                for place, anchor in enumerate([None] + shown):
                    larger = History(deeds + [("put", name, anchor, "yz")])
                    self.assertEqual(text_of(larger, state + [name]), text[:place] + "yz" + text[place:])

    def test_errors(self):
        for call in (seen, text_of):
            self.refuse_each(InvalidHistory, NO_HISTORIES, lambda value: call(value, None))
            self.refuse_each(InvalidState, no_states(), lambda value: call(plain(), value))
        self.refuse_each(InvalidState, no_states(), lambda value: ahead_of(plain(), value, None))
        self.refuse_each(UnknownSign, NO_SIGN_NAMES, lambda value: ahead_of(plain(), [], value))
        self.refuse_each(InvalidHistory, NO_HISTORIES, lambda value: ahead_of(value, None, None))

    def test_arguments_stay(self):
        state = [(1, "ann"), (3, "ann")]
        seen(plain(), state)
        text_of(plain(), state)
        is_state(plain(), state)
        ahead_of(plain(), state, (1, "ann", 1))
        self.assertEqual(state, [(1, "ann"), (3, "ann")])


if __name__ == "__main__":
    unittest.main()
