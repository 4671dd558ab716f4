"""[30] to [33]: hands."""

import unittest
from itertools import product
from random import Random

from everrow.errors import (
    InvalidHistory, InvalidItem, InvalidList, InvalidState, InvalidText, UnknownDeed, UnknownName, UnknownSign,
)
from everrow.hands import Net, clashes
from everrow.history import History, deed_names, text_of, whole
from tests import naive
from tests.cases import Case
from tests.makers import NO_HISTORIES, NO_LISTS, NO_NAMES, NO_TEXTS, heap, no_states, plain, random_deeds

HANDS = ["ann", "bob", "cy", "dee"]
NO_HANDS = NO_NAMES + ["zoe", ["ann"], ("ann",), {"ann": 1}, True]


def told(net, hands=HANDS):
    """All that a net tells."""
    found = []
    for hand in hands:
        found.append((net.heard(hand), net.waiting(hand), net.history(hand).deeds(), net.text(hand)))
        found.append([net.lacks(hand, other) for other in hands])
    return found


def give_all(net, hand, other):
    net.send(hand, other, net.heard(hand) + net.waiting(hand))


class MakingTest(Case):
    """[30]"""

    def test_sizes(self):
        for many in range(1, 5):
            net = Net(HANDS[:many])
            for hand in HANDS[:many]:
                self.assertEqual((net.heard(hand), net.waiting(hand), net.text(hand)), ([], [], ""))
        self.refuse_each(InvalidList, NO_LISTS + [[], HANDS + ["eve"], tuple(HANDS), [None] * 5], Net)

    def test_items(self):
        self.refuse_each(InvalidItem, NO_NAMES, lambda value: Net(["ann", value, None]))
        again = "".join(["an", "n"])
        self.refuse(InvalidItem, again, lambda: Net(["ann", "bob", again, None]))

    def test_the_list_of_hands_may_change(self):
        hands = ["ann", "bob"]
        net = Net(hands)
        hands.append("cy")
        hands[0] = "zoe"
        self.assertEqual(net.put("ann", None, "x"), (1, "ann"))
        self.refuse(UnknownName, "cy", lambda: net.heard("cy"))

    def test_numbers(self):
        net = Net(HANDS)
        self.assertEqual(net.put("ann", None, "abcdef"), (1, "ann"))
        self.assertEqual(net.put("bob", None, "x"), (1, "bob"))
        self.assertEqual(net.drop("ann", [(1, "ann", at) for at in range(6)]), (2, "ann"))
        self.assertEqual(net.put("ann", (1, "ann", 5), "y"), (3, "ann"))
        self.assertEqual(net.heard("ann"), [(1, "ann"), (2, "ann"), (3, "ann")])
        # A deed that waits counts, too.
        net.send("ann", "bob", [(3, "ann")])
        self.assertEqual(net.waiting("bob"), [(3, "ann")])
        self.assertEqual(net.put("bob", (1, "bob", 0), "z"), (4, "bob"))
        self.assertEqual(net.heard("bob"), [(1, "bob"), (4, "bob")])
        known = [("put", (1, "bob"), None, "x"), ("put", (4, "bob"), (1, "bob", 0), "z")]
        self.assertEqual(net.history("bob").deeds(), known)

    def net(self):
        net = Net(["ann", "bob"])
        net.put("ann", None, "ab")
        net.put("ann", (1, "ann", 1), "c")
        net.send("ann", "bob", [(2, "ann")])
        return net

    def refused(self, error, value, call):
        net = self.net()
        before = told(net, ["ann", "bob"])
        self.refuse(error, value, call, net)
        self.assertEqual(told(net, ["ann", "bob"]), before)

    def test_errors_of_put(self):
        for value in NO_HANDS:
            self.refused(UnknownName, value, lambda net: net.put(value, 1, None))
        for value in [True, 0, "a", (), (1, "ann"), [1, "ann", 0], (1, "ann", 2), (1, "ann", False), (True, "ann", 0),
                      (3, "ann", 0), (1, "bob", 0), {}, [None]]:
            self.refused(UnknownSign, value, lambda net: net.put("ann", value, None))
        for value in ((2, "ann", 0), (1, "ann", 0)):
            self.refused(UnknownSign, value, lambda net: net.put("bob", value, "x"))
        for value in NO_TEXTS + ["", "abcdefg"]:
            self.refused(InvalidText, value, lambda net: net.put("ann", None, value))

    def test_errors_of_drop(self):
        for value in NO_HANDS:
            self.refused(UnknownName, value, lambda net: net.drop(value, None))
        first = (1, "ann", 0)
        for value in NO_LISTS + [[], [first] * 7, (first,)]:
            self.refused(InvalidList, value, lambda net: net.drop("ann", value))
        for value in [None, True, "a", (1, "ann"), (1, "ann", 2), (1, "ann", True), (9, "ann", 0), [1, "ann", 0]]:
            # What is unknown is told ahead of what is out of order.
            self.refused(UnknownSign, value, lambda net: net.drop("ann", [first, first, value]))
        self.refused(UnknownSign, first, lambda net: net.drop("bob", [first]))
        again = tuple(list(first))
        self.refused(InvalidItem, again, lambda net: net.drop("ann", [first, again]))
        self.refused(InvalidItem, first, lambda net: net.drop("ann", [(1, "ann", 1), first]))
        self.refused(InvalidItem, first, lambda net: net.drop("ann", [(1, "ann", 1), (2, "ann", 0), first]))

    def test_lists_changed_behind_a_call(self):
        net = self.net()
        signs = [(1, "ann", 0)]
        net.drop("ann", signs)
        signs.append((1, "ann", 1))
        self.assertEqual(net.text("ann"), "bc")
        net.history("ann").deeds()[2][2].append((1, "ann", 1))
        self.assertEqual(net.text("ann"), "bc")
        net.heard("ann").clear()
        net.waiting("bob").clear()
        net.lacks("bob", "ann").clear()
        self.assertEqual(len(net.heard("ann")), 3)
        self.assertEqual(net.waiting("bob"), [(2, "ann")])

    def test_twenty_four(self):
        net = Net(HANDS)
        for k in range(24):
            net.put(HANDS[k % 4], None, "abcdef")
        for hand in HANDS:
            for other in HANDS:
                give_all(net, hand, other)
        self.assertEqual(len(net.heard("ann")), 24)
        self.assertEqual(len(net.text("ann")), 144)


class SendingTest(Case):
    """[31]"""

    def test_errors(self):
        net = Net(HANDS)
        name = net.put("ann", None, "x")
        for value in NO_HANDS:
            for call in (lambda: net.send(value, None, None), lambda: net.send("ann", value, None),
                         lambda: net.heard(value), lambda: net.waiting(value), lambda: net.history(value),
                         lambda: net.text(value), lambda: net.lacks(value, None), lambda: net.lacks("ann", value)):
                self.refuse(UnknownName, value, lambda: call())
        self.refuse_each(InvalidList, NO_LISTS + [(name,)], lambda value: net.send("ann", "bob", value))
        for value in [None, True, "a", [1, "ann"], (True, "ann"), (2, "ann"), (1, "bob"), (1, "ann", 0), (), {}]:
            self.refuse(UnknownDeed, value, lambda: net.send("ann", "bob", [name, value, None]))
            self.assertEqual(net.heard("bob"), [])
        self.refuse(UnknownDeed, name, lambda: net.send("bob", "ann", [name]))

    def test_waiting_and_heard(self):
        net = Net(["ann", "bob", "cy"])
        net.put("ann", None, "ab")
        net.put("ann", (1, "ann", 0), "x")
        net.drop("ann", [(1, "ann", 1), (2, "ann", 0)])
        net.put("ann", (2, "ann", 0), "y")
        self.assertIsNone(net.send("ann", "bob", [(4, "ann"), (3, "ann"), (4, "ann")]))
        self.assertEqual((net.heard("bob"), net.waiting("bob")), ([], [(3, "ann"), (4, "ann")]))
        self.assertEqual(net.lacks("bob", "ann"), [(1, "ann"), (2, "ann")])
        self.assertEqual(net.lacks("ann", "bob"), [])
        # What waits can be sent on.
        net.send("bob", "cy", [(4, "ann")])
        self.assertEqual((net.heard("cy"), net.waiting("cy")), ([], [(4, "ann")]))
        net.send("ann", "bob", [(2, "ann")])
        self.assertEqual(net.waiting("bob"), [(2, "ann"), (3, "ann"), (4, "ann")])
        self.assertEqual((net.history("bob"), net.text("bob")), (History([]), ""))
        net.send("ann", "bob", [(1, "ann")])
        self.assertEqual((net.waiting("bob"), net.text("bob")), ([], "ay"))
        self.assertEqual(net.history("bob"), net.history("ann"))

    def test_to_itself_and_nothing(self):
        net = Net(["ann", "bob"])
        name = net.put("ann", None, "x")
        before = told(net, ["ann", "bob"])
        net.send("ann", "ann", [name, name])
        net.send("ann", "bob", [])
        net.send("bob", "ann", [])
        self.assertEqual(told(net, ["ann", "bob"]), before)

    def test_the_list_stays(self):
        net = Net(["ann", "bob"])
        listed = [net.put("ann", None, "x"), net.put("ann", None, "y")][::-1]
        net.send("ann", "bob", listed)
        self.assertEqual(listed, [(2, "ann"), (1, "ann")])
        listed.clear()
        self.assertEqual(net.heard("bob"), [(1, "ann"), (2, "ann")])

    def test_random_nets(self):
        for seed in range(40):
            chance = Random(seed)
            hands = HANDS[:2 + seed % 3]
            net, owned, deeds = Net(hands), {hand: set() for hand in hands}, {}
            for _ in range(30):
                hand, other = chance.choice(hands), chance.choice(hands)
                heard = [deeds[name] for name in net.heard(hand)]
                signs = naive.row(heard)
                word = chance.choice(["put", "put", "drop", "send", "send"])
                if word == "send":
                    listed = chance.sample(sorted(owned[hand]), chance.randint(0, len(owned[hand])))
                    net.send(hand, other, listed)
                    owned[other].update(listed)
                elif word == "put" and len(deeds) < 12:
                    anchor = chance.choice([None] + signs)
                    name = net.put(hand, anchor, "ab")
                    self.assertEqual(name, (max([number for number, _ in owned[hand]], default=0) + 1, hand))
                    deeds[name] = ("put", name, anchor, "ab")
                    owned[hand].add(name)
                elif word == "drop" and signs and len(deeds) < 12:
                    named = sorted(chance.sample(signs, min(2, len(signs))))
                    name = net.drop(hand, named)
                    deeds[name] = ("drop", name, named)
                    owned[hand].add(name)
                self.check(net, owned, deeds)

    def check(self, net, owned, deeds):
        below = naive.rests_on(list(deeds.values()))
        for hand, names in owned.items():
            heard = sorted(name for name in names if below[name] <= names)
            self.assertEqual(net.heard(hand), heard)
            self.assertEqual(net.waiting(hand), sorted(names - set(heard)))
            known = [deeds[name] for name in heard]
            self.assertEqual(net.history(hand), History(known))
            self.assertEqual(net.text(hand), naive.text(known, heard))
            for other, theirs in owned.items():
                self.assertEqual(net.lacks(hand, other), sorted(theirs - names))


class RoundsTest(Case):
    """[32]"""

    def knowing(self, net, hands):
        return [set(net.heard(hand) + net.waiting(hand)) for hand in hands]

    def play(self, owned, hands, tuples):
        owned = [set(names) for names in owned]
        for hand, other in tuples:
            owned[hands.index(other)] |= owned[hands.index(hand)]
        return owned

    def check(self, net, hands):
        owned = self.knowing(net, hands)
        found = net.rounds()
        goal = [frozenset().union(*owned)] * len(hands)
        self.assertTrue(all(one != other for one, other in found))
        self.assertEqual(self.play(owned, hands, found), goal)
        givings = [(one, other) for one in hands for other in hands if one != other]
        reached = {tuple(frozenset(names) for names in owned)}
        for _ in found:
            self.assertNotIn(tuple(goal), reached)
            reached = {tuple(frozenset(names) for names in self.play(held, hands, [giving]))
                       for held in reached for giving in givings}
        return found

    def test_each_with_a_deed(self):
        for many in range(1, 5):
            hands = HANDS[:many]
            net = Net(hands)
            self.assertEqual(net.rounds(), [])
            for hand in hands:
                net.put(hand, None, "x")
            self.assertEqual(len(self.check(net, hands)), 2 * many - 2)

    def test_random(self):
        lengths = set()
        for seed in range(30):
            chance = Random(seed)
            hands = HANDS[:1 + chance.randrange(4)]
            net = Net(hands)
            for _ in range(chance.randint(0, 6)):
                net.put(chance.choice(hands), None, "x")
                one, other = chance.choice(hands), chance.choice(hands)
                names = net.heard(one)
                net.send(one, other, names[:chance.randint(0, len(names))])
            lengths.add(len(self.check(net, hands)))
        self.assertTrue({0, 1, 2, 3, 4} <= lengths)

    def test_it_gives_nothing(self):
        net = Net(HANDS)
        for hand in HANDS:
            net.put(hand, None, "x")
        before = told(net)
        net.rounds().clear()
        self.assertEqual(told(net), before)
        self.assertEqual(net.rounds(), net.rounds())

    def test_what_waits_is_given_too(self):
        net = Net(["ann", "bob", "cy"])
        net.put("ann", None, "x")
        net.put("ann", (1, "ann", 0), "y")
        net.send("ann", "bob", [(2, "ann")])
        self.assertEqual(len(self.check(net, ["ann", "bob", "cy"])), 2)


class ClashesTest(Case):
    """[33]"""

    def test_all(self):
        for seed in range(25):
            deeds = random_deeds(seed, 7, drops=2)
            given, made = History(deeds), {deed[1]: deed for deed in deeds}
            for one, other in product(naive.states(deeds), repeat=2):
                wanted = []
                for first, second in product(sorted(set(one) - set(other)), sorted(set(other) - set(one))):
                    if made[first][0] == made[second][0]:
                        is_put = made[first][0] == "put"
                        if made[first][2] == made[second][2] if is_put else set(made[first][2]) & set(made[second][2]):
                            wanted.append((first, second))
                self.assertEqual(clashes(given, one, other), wanted)

    def test_edges(self):
        given = History(heap(24))
        names = deed_names(given)
        self.assertEqual(clashes(given, names, names), [])
        self.assertEqual(clashes(given, [], names), [])
        self.assertEqual(len(clashes(given, names[:12], names[12:])), 144)
        self.assertEqual(clashes(given, names[2:3], names[:2]), [((3, "a"), (1, "a")), ((3, "a"), (2, "a"))])
        self.assertEqual(clashes(History([]), [], []), [])

    def test_errors(self):
        self.refuse_each(InvalidHistory, NO_HISTORIES, lambda value: clashes(value, None, None))
        self.refuse_each(InvalidState, no_states(), lambda value: clashes(plain(), value, None))
        self.refuse_each(InvalidState, no_states(), lambda value: clashes(plain(), [], value))


class ConvergenceTest(Case):
    """The remark of [31]."""

    def test_same_deeds_same_text(self):
        for seed in range(10):
            deeds = sorted(random_deeds(seed, 8, hands=("ann",)), key=naive.name_of)
            net = Net(["ann", "bob", "cy"])
            renamed = {}
            for deed in deeds:
                signs = [renamed[sign[:2]] + sign[2:] for sign in naive.named(deed)]
                if deed[0] == "put":
                    renamed[deed[1]] = net.put("ann", signs[0] if signs else None, deed[3])
                else:
                    renamed[deed[1]] = net.drop("ann", sorted(signs))
            names = net.heard("ann")
            for order in (names, names[::-1]):
                for name in order:
                    net.send("ann", "bob", [name])
                    net.send("ann", "cy", [name, name])
            self.assertEqual(net.text("bob"), net.text("ann"))
            self.assertEqual(net.history("cy"), net.history("ann"))
            history = net.history("ann")
            self.assertEqual(net.text("ann"), text_of(history, whole(history)))


if __name__ == "__main__":
    unittest.main()
