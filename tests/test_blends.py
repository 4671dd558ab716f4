"""[45] to [47]: costs by signs, blends, turns."""

import unittest
from itertools import product

from everrow.blends import (
    blend, blended, common, holding, kept_by_signs, sign_cost, sign_span, turns, unblended, unserved_by_signs,
)
from everrow.errors import (
    InvalidHistory, InvalidNumber, InvalidState, InvalidTree, UnknownDeed, UnknownName,
)
from everrow.history import History, deed_names, whole
from everrow.trees import Tree, bent, state_of
from tests import naive
from tests.cases import Case
from tests.growing import (
    ANN, BOB, DROP, NAMES, NO_NODES, NO_TREES, check_serving, near_tree, plain_tree, random_tree, walk, walk_cost,
)
from tests.makers import (
    NO_DEED_NAMES, NO_HISTORIES, NO_NUMBERS, chain, heap, mixed, no_states, plain, random_deeds,
)


def sign_spans(deeds):
    """The number of signs that are seen in just one of two states, as a function of these."""
    shown = {tuple(state): set(found) for state, found in naive.all_seen(deeds)}
    return lambda one, other: len(shown[tuple(one)] ^ shown[tuple(other)])


class SignSpanTest(Case):
    """[45]"""

    def test_spans(self):
        for seed in range(15):
            deeds = random_deeds(seed, 6, drops=2)
            given, length = History(deeds), sign_spans(deeds)
            for one, other in product(naive.states(deeds), repeat=2):
                self.assertEqual(sign_span(given, one, other), length(one, other))

    def test_edges(self):
        given = History(mixed(12, 12))
        self.assertEqual(sign_span(given, [], whole(given)), 60)
        self.assertEqual(sign_span(given, whole(given), whole(given)), 0)
        self.assertEqual(sign_span(given, whole(given)[:12], whole(given)), 12)
        given = History(chain(24, "abcdef"))
        self.assertEqual(sign_span(given, whole(given), []), 144)

    def test_costs_and_serving(self):
        for seed in range(60):
            deeds = random_deeds(seed, 6, drops=2)
            rows = (near_tree if seed % 2 else random_tree)(seed, 1 + seed % 7, deeds)
            tree, length = Tree(History(deeds), rows), sign_spans(deeds)
            for one, other in product([row[0] for row in rows], repeat=2):
                self.assertEqual(sign_cost(tree, one, other), walk_cost(rows, one, other, length))
            for number in (0, 1, 2, 4):
                found = kept_by_signs(tree, number), unserved_by_signs(tree, number)
                check_serving(self, rows, number, length, *found)

    def test_ten_nodes(self):
        deeds = random_deeds(3, 7)
        rows = near_tree(3, 10, deeds)
        tree = Tree(History(deeds), rows)
        for number in (0, 2):
            found = kept_by_signs(tree, number), unserved_by_signs(tree, number)
            check_serving(self, rows, number, sign_spans(deeds), *found)

    def test_errors(self):
        self.refuse_each(InvalidHistory, NO_HISTORIES, lambda value: sign_span(value, None, None))
        self.refuse_each(InvalidState, no_states(), lambda value: sign_span(plain(), value, None))
        self.refuse_each(InvalidState, no_states(), lambda value: sign_span(plain(), [], value))
        for call in (kept_by_signs, unserved_by_signs):
            self.refuse_each(InvalidTree, NO_TREES, lambda value: call(value, None))
            self.refuse_each(InvalidNumber, NO_NUMBERS + [-1], lambda value: call(plain_tree(), value))


class TreeErrorsTest(Case):
    """The errors of those that take a tree and two nodes."""

    def test_errors(self):
        for call in (sign_cost, common, blended):
            self.refuse_each(InvalidTree, NO_TREES, lambda value: call(value, None, None))
            self.refuse_each(UnknownName, NO_NODES, lambda value: call(plain_tree(), value, None))
            self.refuse_each(UnknownName, NO_NODES, lambda value: call(plain_tree(), "top", value))


class BlendTest(Case):
    """[46]"""

    def test_all(self):
        lacking = 0
        for seed in range(12):
            deeds = random_deeds(seed, 5)
            given = History(deeds)
            states = naive.states(deeds)
            for base, one, other in product(states, repeat=3):
                root, first, second = set(base), set(one), set(other)
                wished = (first & second) | (first - root) | (second - root)
                wanted = naive.greatest([state for state in states if set(state) <= wished])
                self.assertEqual(blend(given, base, one, other), wanted)
                self.assertEqual(unblended(given, base, one, other), sorted(wished - set(wanted)))
                lacking += len(wanted) < len(wished)
            for base, one in product(states, repeat=2):
                self.assertEqual(blend(given, base, one, base), one)
                self.assertEqual(blend(given, base, base, one), one)
                self.assertEqual(unblended(given, base, one, base), [])
        self.assertGreater(lacking, 0)

    def test_edges(self):
        given = History(chain(24))
        top = whole(given)
        self.assertEqual(blend(given, top[:10], [], top), [])
        self.assertEqual(unblended(given, top[:10], [], top), top[10:])
        self.assertEqual(blend(given, [], top, top), top)
        self.assertEqual(blend(History([]), [], [], []), [])
        self.assertEqual(unblended(History(heap(24)), [], top, []), [])

    def test_errors(self):
        for call in (blend, unblended):
            self.refuse_each(InvalidHistory, NO_HISTORIES, lambda value: call(value, None, None, None))
            self.refuse_each(InvalidState, no_states(), lambda value: call(plain(), value, None, None))
            self.refuse_each(InvalidState, no_states(), lambda value: call(plain(), [], value, None))
            self.refuse_each(InvalidState, no_states(), lambda value: call(plain(), [], [], value))

    def test_arguments_stay(self):
        base, one, other = [ANN], [ANN, BOB], [ANN, DROP]
        blend(plain(), base, one, other).clear()
        unblended(plain(), base, one, other).append(1)
        self.assertEqual((base, one, other), ([ANN], [ANN, BOB], [ANN, DROP]))


class CommonTest(Case):
    """[47]"""

    def test_common_and_blended(self):
        for seed in range(40):
            deeds = random_deeds(seed, 6)
            rows = random_tree(seed, 1 + seed % 10, deeds)
            tree = Tree(History(deeds), rows)
            states = naive.states(deeds)
            for one, other in product([row[0] for row in rows], repeat=2):
                shared = [name for name in walk(rows, NAMES[0], one) if name in walk(rows, NAMES[0], other)]
                self.assertEqual(common(tree, one, other), shared[-1])
                root, first, second = [set(state_of(tree, name)) for name in (shared[-1], one, other)]
                wished = (first & second) | (first - root) | (second - root)
                wanted = naive.greatest([state for state in states if set(state) <= wished])
                self.assertEqual(blended(tree, one, other), wanted)

    def test_turns_and_holding(self):
        for seed in range(60):
            deeds = random_deeds(seed, 5)
            rows = (near_tree if seed % 2 else random_tree)(seed, 1 + seed % 10, deeds)
            tree = Tree(History(deeds), rows)
            states = {name: state for name, _, state in rows}
            twice = False
            for deed in deeds:
                turned = [name for name, parent, state in rows[1:] if (deed[1] in state) != (deed[1] in states[parent])]
                self.assertEqual(turns(tree, deed[1]), turned)
                self.assertEqual(holding(tree, deed[1]), [row[0] for row in rows if deed[1] in row[2]])
                twice = twice or len(turned) > 1
            self.assertEqual(bent(tree) is None, not twice)

    def test_plain(self):
        tree = plain_tree()
        self.assertEqual(common(tree, "two", "three"), "one")
        self.assertEqual(common(tree, "two", "one"), "one")
        self.assertEqual(common(tree, "two", "two"), "two")
        self.assertEqual(blended(tree, "two", "three"), [ANN, BOB, DROP])
        self.assertEqual((turns(tree, ANN), holding(tree, ANN)), (["one"], ["one", "two", "three"]))
        alone = Tree(plain(), [("a", None, [ANN])])
        self.assertEqual((common(alone, "a", "a"), blended(alone, "a", "a")), ("a", [ANN]))
        self.assertEqual((turns(alone, ANN), holding(alone, ANN), holding(alone, BOB)), ([], ["a"], []))

    def test_errors(self):
        for call in (turns, holding):
            self.refuse_each(InvalidTree, NO_TREES, lambda value: call(value, None))
            self.refuse_each(UnknownDeed, NO_DEED_NAMES, lambda value: call(plain_tree(), value))

    def test_large(self):
        given = History(mixed(12, 12))
        rows = [("a", None, [])] + [(chr(98 + k), "a", whole(given)[:12 + k]) for k in range(9)]
        tree = Tree(given, rows)
        for name in deed_names(given):
            self.assertEqual(len(turns(tree, name)), len(holding(tree, name)))
        self.assertEqual(blended(tree, "i", "j"), whole(given)[:20])


if __name__ == "__main__":
    unittest.main()
