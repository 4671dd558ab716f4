"""[60] to [64]: marks."""

import unittest
from itertools import combinations, product
from random import Random

from everrow.errors import InvalidHistory, InvalidItem, InvalidList, InvalidMark, InvalidState
from everrow.history import History, ahead_of, ever_row, text_of, whole
from everrow.marks import (
    apart, crossing, folded, is_lost, marks_in_order, meeting, moves, picked, place_of, strays,
)
from tests import naive
from tests.cases import Case
from tests.makers import (
    NO_HISTORIES, NO_LISTS, NO_SIGN_NAMES, PLAIN, chain, mixed, no_states, plain, random_deeds,
)

ANN, BOB, DROP = (1, "ann"), (2, "bob"), (3, "ann")
A, B, X = (1, "ann", 0), (1, "ann", 1), (2, "bob", 0)
FIRST, LAST = ("first",), ("last",)


def all_marks(deeds):
    """All marks of a history, in the order of [60]."""
    found = [FIRST]
    for sign in naive.row(deeds):
        found += [("ahead", sign), ("behind", sign)]
    return found + [LAST]


def no_marks():
    """Values that are no marks of the plain history."""
    found = [("behind", sign) for sign in NO_SIGN_NAMES] + [("ahead", sign) for sign in NO_SIGN_NAMES]
    return found + [None, True, 0, "first", [], (), {}, ["first"], ["behind", A], ("behind",), ("first", A),
                    ("last", A), ("before", A), (None, A), (["behind"], A), ("behind", A, A), (("first",),), A, plain()]


def amid(deeds, mark):
    """The signs of the ever-row that lie ahead of a mark."""
    order = naive.row(deeds)
    if mark == FIRST:
        return []
    if mark == LAST:
        return order
    return order[:order.index(mark[1]) + (mark[0] == "behind")]


def naive_place(deeds, signs, mark):
    return len([sign for sign in amid(deeds, mark) if sign in signs])


class PlacesTest(Case):
    """[60]"""

    def test_all(self):
        for seed in range(20):
            deeds = random_deeds(seed, 1 + seed % 6, drops=2)
            given = History(deeds)
            for state, signs in naive.all_seen(deeds):
                for mark in all_marks(deeds):
                    self.assertEqual(place_of(given, state, mark), naive_place(deeds, signs, mark))
                    lost = len(mark) == 2 and mark[1] not in signs
                    self.assertIs(is_lost(given, state, mark), lost)

    def test_edges(self):
        deeds = mixed(12, 12)
        given = History(deeds)
        top, order = whole(given), ever_row(given)
        self.assertEqual([place_of(given, top, mark) for mark in (FIRST, LAST)], [0, 60])
        self.assertEqual([is_lost(given, top, mark) for mark in (FIRST, LAST)], [False, False])
        self.assertEqual(place_of(given, top, ("ahead", order[0])), 0)
        self.assertEqual(place_of(given, top, ("behind", order[-1])), 60)
        # The third sign is dropped: a lost mark stays where the sign would be.
        self.assertEqual([place_of(given, top, (word, order[2])) for word in ("ahead", "behind")], [2, 2])
        self.assertEqual([is_lost(given, top, (word, order[2])) for word in ("ahead", "behind")], [True, True])
        empty = History([])
        self.assertEqual([place_of(empty, [], mark) for mark in (FIRST, LAST)], [0, 0])

    def test_marks_never_change_sides(self):
        deeds = random_deeds(2, 6, drops=2)
        given = History(deeds)
        states = naive.states(deeds)
        for one, other in combinations(all_marks(deeds), 2):
            sides = [place_of(given, state, other) - place_of(given, state, one) for state in states]
            self.assertTrue(all(side >= 0 for side in sides))

    def test_errors(self):
        for call in (place_of, is_lost):
            self.refuse_each(InvalidHistory, NO_HISTORIES, lambda value: call(value, None, None))
            self.refuse_each(InvalidState, no_states(), lambda value: call(plain(), value, None))
            self.refuse_each(InvalidMark, no_marks(), lambda value: call(plain(), [ANN], value))


class OrderTest(Case):
    """[61]"""

    def test_order(self):
        for seed in range(20):
            deeds = random_deeds(seed, seed % 6)
            given, marks = History(deeds), all_marks(deeds)
            mixed_up = marks + marks[::2]
            Random(seed).shuffle(mixed_up)
            before = list(mixed_up)
            self.assertEqual(marks_in_order(given, mixed_up), sorted(mixed_up, key=marks.index))
            self.assertEqual(mixed_up, before)
        self.assertEqual(marks_in_order(plain(), []), [])

    def test_moves(self):
        for seed in range(12):
            deeds = random_deeds(seed, 5, drops=2)
            given, marks = History(deeds), all_marks(deeds)[::-1]
            for one, other in product(naive.states(deeds), repeat=2):
                wanted = [place_of(given, other, mark) - place_of(given, one, mark) for mark in marks]
                self.assertEqual(moves(given, one, other, marks), wanted)
        self.assertEqual(moves(plain(), [ANN], [ANN, BOB], [LAST, FIRST, LAST]), [1, 0, 1])
        self.assertEqual(moves(plain(), [ANN], [], []), [])

    def test_errors(self):
        calls = (marks_in_order, lambda history, marks: moves(history, [], [], marks))
        for call in calls:
            self.refuse_each(InvalidHistory, NO_HISTORIES, lambda value: call(value, None))
            self.refuse_each(InvalidList, NO_LISTS + [(FIRST,)], lambda value: call(plain(), value))
            self.refuse_each(InvalidItem, no_marks(), lambda value: call(plain(), [FIRST, value, None]))
        self.refuse_each(InvalidState, no_states(), lambda value: moves(plain(), value, None, None))
        self.refuse_each(InvalidState, no_states(), lambda value: moves(plain(), [], value, None))


class MeetingTest(Case):
    """[62]"""

    def test_all(self):
        for seed in range(20):
            deeds = random_deeds(seed, 6, drops=2, longest=2)
            given, shown = History(deeds), naive.all_seen(deeds)
            for one, other in product(all_marks(deeds), repeat=2):
                places = [(state, naive_place(deeds, signs, one), naive_place(deeds, signs, other))
                          for state, signs in shown]
                same = [state for state, first, second in places if first == second]
                unlike = [state for state, first, second in places if first != second]
                self.assertEqual(meeting(given, one, other), naive.greatest(same))
                if unlike:
                    self.assertIn(apart(given, one, other), naive.least(unlike))
                else:
                    self.assertIsNone(apart(given, one, other))

    def test_edges(self):
        given = History(mixed(12, 12))
        top = whole(given)
        self.assertEqual(meeting(given, FIRST, FIRST), top)
        self.assertIsNone(apart(given, LAST, LAST))
        self.assertEqual(meeting(given, FIRST, LAST), [])
        self.assertEqual(apart(given, LAST, FIRST), [(1, "a")])
        self.assertEqual(meeting(given, ("ahead", (1, "a", 2)), ("behind", (1, "a", 2))), top)
        self.assertEqual(apart(given, ("behind", (12, "a", 5)), ("ahead", (12, "a", 4))), top[:12])
        self.assertIsNone(apart(given, ("behind", (12, "a", 5)), LAST))
        empty = History([])
        self.assertEqual((meeting(empty, FIRST, LAST), apart(empty, FIRST, LAST)), ([], None))

    def test_errors(self):
        for call in (meeting, apart):
            self.refuse_each(InvalidHistory, NO_HISTORIES, lambda value: call(value, None, None))
            self.refuse_each(InvalidMark, no_marks(), lambda value: call(plain(), value, None))
            self.refuse_each(InvalidMark, no_marks(), lambda value: call(plain(), FIRST, value))


class StraysTest(Case):
    """[63]"""

    def carried(self, before, after, place, mark):
        """The place carried along, counted as the signs that it comes ahead of."""
        both = [sign for sign in after if sign in before]
        behind = len([sign for sign in before[place:] if sign in both])
        fitting = [at for at in range(len(after) + 1) if len([sign for sign in after[at:] if sign in both]) == behind]
        return min(fitting) if mark[0] in ("behind", "first") else max(fitting)

    def wanted(self, deeds, rows, mark):
        place = naive_place(deeds, rows[0], mark)
        for number in range(1, len(rows)):
            place = self.carried(rows[number - 1], rows[number], place, mark)
            if place != naive_place(deeds, rows[number], mark):
                return number
        return None

    def test_all(self):
        found = set()
        for seed in range(60):
            deeds = random_deeds(seed, 6, drops=2)
            given, shown = History(deeds), naive.all_seen(deeds)
            chance = Random(seed)
            for many in (1, 2, 3, 20):
                rows = [chance.choice(shown) for _ in range(many)]
                for mark in all_marks(deeds):
                    told = strays(given, [state for state, _ in rows], mark)
                    self.assertEqual(told, self.wanted(deeds, [signs for _, signs in rows], mark))
                    found.add(told)
        self.assertTrue({None, 1, 2, 3} <= found)

    def test_ends(self):
        # At ("first",) the least place is right and at ("last",) the greatest one, so neither ever strays.
        for seed in range(10):
            deeds = random_deeds(seed, 6)
            states = naive.states(deeds)[:20]
            for mark in (FIRST, LAST):
                self.assertIsNone(strays(History(deeds), states, mark))

    def test_worked_example(self):
        states = [[ANN], [ANN, DROP], [ANN]]
        self.assertEqual(strays(plain(), states, ("behind", B)), 2)
        self.assertEqual(strays(plain(), states, ("ahead", B)), 2)
        self.assertIsNone(strays(plain(), states, ("ahead", A)))
        self.assertEqual(states, [[ANN], [ANN, DROP], [ANN]])
        given = History(mixed(12, 12))
        self.assertIsNone(strays(given, [whole(given)] * 20, ("behind", (12, "a", 5))))

    def test_errors(self):
        self.refuse_each(InvalidHistory, NO_HISTORIES, lambda value: strays(value, None, None))
        values = NO_LISTS + [[], [[]] * 21, ([],), [None] * 21]
        self.refuse_each(InvalidList, values, lambda value: strays(plain(), value, None))
        self.refuse_each(InvalidItem, no_states(), lambda value: strays(plain(), [[], value, None], None))
        self.refuse_each(InvalidMark, no_marks(), lambda value: strays(plain(), [[]], value))


def no_selections():
    """Values that are no selections of the plain history, whose ever-row is A, X, B."""
    found = [(mark, LAST) for mark in no_marks()] + [(FIRST, mark) for mark in no_marks()]
    return found + [None, True, "ab", [], (), {}, [FIRST, LAST], (FIRST,), (FIRST, LAST, LAST), (LAST, FIRST),
                    (("behind", A), ("ahead", A)), (("ahead", X), ("behind", A)), (("ahead", A), FIRST),
                    (LAST, ("behind", B))]


class PickedTest(Case):
    """[64], of one selection"""

    def test_all(self):
        for seed in range(8):
            deeds = random_deeds(seed, 5, drops=2)
            given, marks = History(deeds), all_marks(deeds)
            for state in naive.states(deeds):
                text = naive.text(deeds, state)
                for one, other in product(marks, repeat=2):
                    if marks.index(one) <= marks.index(other):
                        wanted = text[place_of(given, state, one):place_of(given, state, other)]
                        self.assertEqual(picked(given, state, (one, other)), wanted)
                    else:
                        self.refuse_each(InvalidMark, [(one, other)], lambda value: picked(given, state, value))

    def test_edges(self):
        given = History(chain(24, "abcdef"))
        top = whole(given)
        self.assertEqual(picked(given, top, (FIRST, LAST)), "abcdef" * 24)
        self.assertEqual(picked(given, top, (FIRST, FIRST)), "")
        self.assertEqual(picked(given, [], (FIRST, LAST)), "")

    def test_errors(self):
        self.refuse_each(InvalidHistory, NO_HISTORIES, lambda value: picked(value, None, None))
        self.refuse_each(InvalidState, no_states(), lambda value: picked(plain(), value, None))
        self.refuse_each(InvalidMark, no_selections(), lambda value: picked(plain(), [ANN], value))


def held(deeds, fold):
    """The signs of the ever-row that lie within a fold, as places."""
    return set(range(len(amid(deeds, fold[0])), len(amid(deeds, fold[1]))))


def do_cross(deeds, one, other):
    """[64]: one begins behind the other's begin and ahead of its end, and ends behind it."""
    begin, end = len(amid(deeds, one[0])), len(amid(deeds, one[1]))
    start, stop = len(amid(deeds, other[0])), len(amid(deeds, other[1]))
    return start < begin < stop < end or begin < start < end < stop


def all_folds(deeds):
    marks = all_marks(deeds)
    return [(one, other) for at, one in enumerate(marks) for other in marks[at:]]


def naive_folded(deeds, state, folds):
    """Each longest stretch as one sign; of stretches that do not cross no two longest ones overlap."""
    signs, order, known = naive.seen(deeds, state), naive.row(deeds), naive.signs(deeds)
    stretches = {frozenset(sign for sign in signs if order.index(sign) in held(deeds, fold)) for fold in folds}
    longest = [one for one in stretches if one and not any(one < other for other in stretches)]
    text, done = "", set()
    for sign in signs:
        around = [one for one in longest if sign in one]
        assert len(around) <= 1
        if not around:
            text += known[sign]
        elif around[0] not in done:
            done.add(around[0])
            text += "~"
    return text


class FoldsTest(Case):
    """[64], of many selections"""

    def test_two(self):
        for seed in range(4):
            deeds = random_deeds(seed, 3, drops=99, longest=2)
            given = History(deeds)
            for one, other in product(all_folds(deeds), repeat=2):
                wanted = (one, other) if do_cross(deeds, one, other) else None
                self.assertEqual(crossing(given, [one, other]), wanted)

    def test_many(self):
        crossed = 0
        for seed in range(400):
            deeds = random_deeds(seed % 20, 6, drops=2)
            given = History(deeds)
            chance = Random(seed)
            folds = chance.sample(all_folds(deeds), chance.randint(0, 4))
            wanted = None
            for one, other in combinations(folds, 2):
                if wanted is None and do_cross(deeds, one, other):
                    wanted = (one, other)
            self.assertEqual(crossing(given, folds), wanted)
            for state in naive.states(deeds)[::3]:
                if wanted is None:
                    self.assertEqual(folded(given, state, folds), naive_folded(deeds, state, folds))
                else:
                    crossed += 1
                    self.refuse(InvalidItem, wanted[1], lambda: folded(given, state, folds))
        self.assertGreater(crossed, 50)

    def fold(self, begin, end):
        """The fold of the put "abcdef" from one gap to another one."""
        first = ("behind", (1, "a", begin - 1)) if begin else FIRST
        return (first, ("ahead", (1, "a", end)) if end < 6 else LAST)

    def told(self, *gaps):
        given = History([("put", (1, "a"), None, "abcdef")])
        return folded(given, [(1, "a")], [self.fold(begin, end) for begin, end in gaps])

    def test_edges(self):
        self.assertEqual(self.told(), "abcdef")
        self.assertEqual(self.told((0, 6)), "~")
        self.assertEqual(self.told((1, 3)), "a~def")
        self.assertEqual(self.told((1, 3), (3, 5)), "a~~f")
        self.assertEqual(self.told((3, 5), (1, 3)), "a~~f")
        self.assertEqual(self.told((1, 5), (2, 3), (3, 4)), "a~f")
        self.assertEqual(self.told((2, 3), (1, 5), (1, 3)), "a~f")
        self.assertEqual(self.told((2, 4), (2, 4)), "ab~ef")
        self.assertEqual(self.told((0, 1), (5, 6)), "~bcde~")

    def test_empty_folds(self):
        given = History([("put", (1, "a"), None, "abcdef")])
        here = ("behind", (1, "a", 2))
        beside = ("ahead", (1, "a", 3))
        for fold in ((here, here), (here, beside), (FIRST, FIRST), (LAST, LAST), (FIRST, ("ahead", (1, "a", 0)))):
            self.assertEqual(folded(given, [(1, "a")], [fold]), "abcdef")
            self.assertIsNone(crossing(given, [fold, (FIRST, LAST), self.fold(1, 5), fold]))
            self.assertEqual(folded(given, [(1, "a")], [fold, self.fold(1, 5)]), "a~f")
        self.assertEqual(folded(given, [], [(FIRST, LAST)]), "")

    def test_folds_of_which_nothing_is_seen(self):
        deeds = PLAIN + [("drop", (4, "ann"), [(2, "bob", 0)])]
        given = History(deeds)
        fold = (("ahead", X), ("behind", X))
        self.assertEqual(folded(given, [ANN, BOB], [fold]), "a~b")
        self.assertEqual(folded(given, [ANN, BOB, (4, "ann")], [fold]), "ab")
        # Two folds that hold the same seen signs are one stretch, though they hold unlike signs of the ever-row.
        self.assertEqual(folded(given, [ANN], [(FIRST, ("behind", X)), (FIRST, ("ahead", X))]), "~b")

    def test_touching_is_no_crossing(self):
        # Between the two marks behind A and ahead of X no sign lies.
        one, other = (FIRST, ("ahead", X)), (("behind", A), LAST)
        self.assertIsNone(crossing(plain(), [one, other]))
        self.assertEqual(folded(plain(), [ANN, BOB], [one, other]), "~~")
        one, other = (FIRST, ("behind", X)), (("behind", A), LAST)
        self.assertEqual(crossing(plain(), [one, other]), (one, other))
        self.assertEqual(crossing(plain(), [other, one]), (other, one))
        # Folds cross by the ever-row, whether the signs are seen or not.
        self.assertEqual(crossing(plain(), [one, one, other]), (one, other))
        self.refuse(InvalidItem, other, lambda: folded(plain(), [], [one, one, other]))

    def test_the_first_crossing(self):
        one, two, three = self.fold(0, 3), self.fold(2, 5), self.fold(1, 4)
        given = History([("put", (1, "a"), None, "abcdef")])
        apart_from_all = self.fold(5, 6)
        self.assertEqual(crossing(given, [apart_from_all, one, two, three]), (one, two))
        self.assertEqual(crossing(given, [self.fold(0, 6), three, self.fold(3, 4), two, one]), (three, two))

    def test_errors(self):
        self.refuse_each(InvalidHistory, NO_HISTORIES, lambda value: crossing(value, None))
        self.refuse_each(InvalidHistory, NO_HISTORIES, lambda value: folded(value, None, None))
        self.refuse_each(InvalidState, no_states(), lambda value: folded(plain(), value, None))
        for call in (crossing, lambda history, folds: folded(history, [], folds)):
            self.refuse_each(InvalidList, NO_LISTS + [((FIRST, LAST),)], lambda value: call(plain(), value))
            crossed = [(FIRST, ("behind", X)), (("behind", A), LAST)]
            self.refuse_each(InvalidItem, no_selections(), lambda value: call(plain(), crossed + [value, None]))

    def test_large(self):
        given = History(chain(24, "abcdef"))
        folds = [(("ahead", (k, "a", 1)), ("behind", (k, "a", 4))) for k in range(1, 25)]
        self.assertEqual(folded(given, whole(given), folds), "a~f" * 24)
        self.assertEqual(text_of(given, whole(given)), "abcdef" * 24)
        before = list(folds)
        crossing(given, folds)
        self.assertEqual(folds, before)


class SignsTest(Case):

    def test_place_ahead_of_a_sign(self):
        deeds = random_deeds(6, 7, drops=2)
        given = History(deeds)
        for state in naive.states(deeds):
            for sign in ever_row(given):
                self.assertEqual(place_of(given, state, ("ahead", sign)), ahead_of(given, state, sign))


if __name__ == "__main__":
    unittest.main()
