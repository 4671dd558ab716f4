"""[40] to [44]: trees of states."""

import unittest
from itertools import product

from everrow.errors import (
    InvalidHistory, InvalidItem, InvalidList, InvalidNumber, InvalidState, InvalidText, InvalidTree, UnknownName,
)
from everrow.history import History, text_of, whole
from everrow.trees import (
    Tree, bent, cost, doors, graft, kept, span, state_of, text_at, unserved, way_of,
)
from tests import naive
from tests.cases import Case
from tests.growing import (
    ANN, BOB, DROP, NAMES, NO_NODES, NO_TREES, ROWS, check_serving, near_tree, plain_tree, random_tree, spans, walk,
    walk_cost,
)
from tests.makers import (
    NO_HISTORIES, NO_LISTS, NO_NAMES, NO_NUMBERS, NO_TEXTS, PLAIN, heap, mixed, no_states, plain, random_deeds,
)


class MakingTest(Case):
    """[40]"""

    def test_span(self):
        for seed in range(10):
            deeds = random_deeds(seed, 6)
            given = History(deeds)
            for one, other in product(naive.states(deeds), repeat=2):
                self.assertEqual(span(given, one, other), spans(one, other))
        given = History(mixed(12, 12))
        self.assertEqual((span(given, [], whole(given)), span(given, [], [])), (24, 0))

    def test_errors_of_span(self):
        self.refuse_each(InvalidHistory, NO_HISTORIES, lambda value: span(value, None, None))
        self.refuse_each(InvalidState, no_states(), lambda value: span(plain(), value, None))
        self.refuse_each(InvalidState, no_states(), lambda value: span(plain(), [ANN], value))

    def test_parts(self):
        tree = plain_tree()
        self.assertEqual(tree.history(), plain())
        self.assertEqual(tree.rows(), ROWS)
        for name, _, state in ROWS:
            self.assertEqual(state_of(tree, name), state)
            self.assertEqual(text_at(tree, name), text_of(plain(), state))
        alone = Tree(History([]), [("abcdefgh", None, [])])
        self.assertEqual((state_of(alone, "abcdefgh"), text_at(alone, "abcdefgh")), ([], ""))

    def test_equal_states_are_allowed(self):
        rows = [("m", None, [ANN])] + [(name, "m", [ANN]) for name in NAMES[1:]]
        self.assertEqual(Tree(plain(), rows).rows(), rows)

    def test_whole_states(self):
        given = History(mixed(12, 12))
        tree = Tree(given, [("a", None, []), ("b", "a", whole(given))])
        self.assertEqual(state_of(tree, "b"), whole(given))
        self.assertEqual(cost(tree, "a", "b"), 24)

    def test_no_history_and_no_list(self):
        self.refuse_each(InvalidHistory, NO_HISTORIES, lambda value: Tree(value, None))
        eleven = [("a", None, [])] + [("b" * k, "a", []) for k in range(1, 9)] + [("c", "a", []), ("d", "a", [])]
        values = NO_LISTS + [[], eleven, tuple(ROWS), [None] * 11]
        self.refuse_each(InvalidList, values, lambda value: Tree(plain(), value))

    def assert_item(self, rows, at):
        self.refuse(InvalidItem, rows[at], lambda: Tree(plain(), rows))

    def test_items(self):
        for value in (None, True, 1, "a", [], (), ("a", "top"), ("a", "top", [], 1), ["a", "top", []], {}):
            self.assert_item([("top", None, []), value, None], 1)
        for name in NO_NAMES + ["top"]:
            self.assert_item([("top", None, []), (name, "top", []), None], 1)
            if name != "top":
                self.assert_item([(name, None, [])], 0)
        for parent in (None, True, "", "a", "zoe", ["top"], ("top",)):
            self.assert_item([("top", None, []), ("a", parent, []), ("zoe", "top", [])], 1)
        for parent in ("top", "", False, [], 0):
            self.assert_item([("top", parent, [])], 0)
        for state in no_states():
            self.assert_item([("top", None, []), ("a", "top", state)], 1)
            self.assert_item([("top", None, state), None], 0)

    def test_equality(self):
        tree = plain_tree()
        self.assertTrue(tree == Tree(History(PLAIN[::-1]), ROWS))
        self.assertFalse(tree != Tree(History(PLAIN[::-1]), ROWS))
        larger = History(PLAIN + [("put", (4, "z"), None, "z")])
        swapped = ROWS[:2] + [ROWS[3], ROWS[2]]
        others = [Tree(larger, ROWS), Tree(plain(), ROWS[:3]), Tree(plain(), swapped),
                  Tree(plain(), [("tip", None, [])]), Tree(plain(), ROWS[:3] + [("three", "top", [ANN, DROP])]),
                  Tree(plain(), ROWS[:3] + [("three", "one", [ANN])])]
        for value in others + NO_TREES:
            self.assertFalse(tree == value)
            self.assertTrue(tree != value)

    def test_lists_changed_behind_a_call(self):
        state = [ANN]
        rows = [("top", None, state), ("one", "top", state)]
        tree = Tree(plain(), rows)
        state.append(BOB)
        rows.pop()
        tree.rows()[0][2].append(DROP)
        tree.rows().clear()
        state_of(tree, "top").clear()
        self.assertEqual(tree.rows(), [("top", None, [ANN]), ("one", "top", [ANN])])
        told = tree.rows()
        self.assertIsNot(told[0][2], told[1][2])


class WaysTest(Case):
    """[41]"""

    def test_all(self):
        bends = set()
        for seed in range(60):
            deeds = random_deeds(seed, 5)
            rows = (near_tree if seed % 2 else random_tree)(seed, 1 + seed % 10, deeds)
            tree = Tree(History(deeds), rows)
            names = [row[0] for row in rows]
            first = None
            for one, other in product(names, repeat=2):
                self.assertEqual(way_of(tree, one, other), walk(rows, one, other))
                price = walk_cost(rows, one, other, spans)
                self.assertEqual(cost(tree, one, other), price)
                is_bent = price > spans(state_of(tree, one), state_of(tree, other))
                if first is None and names.index(one) < names.index(other) and is_bent:
                    first = (one, other)
            self.assertEqual(bent(tree), first)
            self.assertEqual(first is None, self.turn_once(rows))
            bends.add(first is None)
        self.assertEqual(bends, {True, False})

    def turn_once(self, rows):
        """Whether each deed comes or goes between at most one node and its parent."""
        states = {name: set(state) for name, _, state in rows}
        turned = [name for node, parent, _ in rows[1:] for name in states[node] ^ states[parent]]
        return len(turned) == len(set(turned))

    def test_plain(self):
        tree = plain_tree()
        self.assertEqual(way_of(tree, "two", "three"), ["two", "one", "three"])
        self.assertEqual(way_of(tree, "two", "two"), ["two"])
        self.assertEqual(cost(tree, "two", "top"), 2)
        rows = ROWS + [("four", "three", [ANN])]
        self.assertEqual(bent(Tree(plain(), rows)), ("top", "four"))
        self.assertIsNone(bent(Tree(plain(), [("a", None, [ANN])])))

    def test_errors(self):
        for call in (way_of, cost):
            self.refuse_each(InvalidTree, NO_TREES, lambda value: call(value, None, None))
            self.refuse_each(UnknownName, NO_NODES, lambda value: call(plain_tree(), value, None))
            self.refuse_each(UnknownName, NO_NODES, lambda value: call(plain_tree(), "top", value))
        for call in (state_of, text_at):
            self.refuse_each(InvalidTree, NO_TREES, lambda value: call(value, None))
            self.refuse_each(UnknownName, NO_NODES, lambda value: call(plain_tree(), value))
        self.refuse_each(InvalidTree, NO_TREES, lambda value: bent(value))


class ServingTest(Case):
    """[42]"""

    def test_all(self):
        for seed in range(60):
            deeds = random_deeds(seed, 6)
            many = 1 + seed % 7
            rows = (near_tree if seed % 2 else random_tree)(seed, many, deeds)
            tree = Tree(History(deeds), rows)
            for number in (0, 1, 2, 3, 5):
                check_serving(self, rows, number, spans, kept(tree, number), unserved(tree, number))

    def test_ten_nodes(self):
        for seed in range(3):
            deeds = random_deeds(seed, 7)
            rows = near_tree(seed, 10, deeds)
            tree = Tree(History(deeds), rows)
            for number in (0, 1, 2):
                check_serving(self, rows, number, spans, kept(tree, number), unserved(tree, number))

    def test_edges(self):
        alone = Tree(plain(), [("a", None, [])])
        self.assertEqual((kept(alone, 0), unserved(alone, 0)), (["a"], ["a"]))
        tree = plain_tree()
        self.assertEqual(kept(tree, 0), ["top", "one", "two", "three"])
        self.assertEqual(unserved(tree, 0), ["top", "one", "two", "three"])
        self.assertEqual(len(kept(tree, 10 ** 30)), 1)
        same = Tree(plain(), [("m", None, [ANN])] + [(name, "m", [ANN]) for name in NAMES[1:]])
        self.assertEqual((len(kept(same, 0)), len(unserved(same, 0))), (1, 1))

    def test_errors(self):
        for call in (kept, unserved):
            self.refuse_each(InvalidTree, NO_TREES, lambda value: call(value, None))
            self.refuse_each(InvalidNumber, NO_NUMBERS + [-1], lambda value: call(plain_tree(), value))


class DoorsTest(Case):
    """[43]"""

    def steps(self, deeds, rows):
        """For each node those to which one step leads, with what it costs."""
        shown = {name: naive.text(deeds, state) for name, _, state in rows}
        found = {name: {} for name in shown}
        for one, other in product(shown, repeat=2):
            if shown[one] == shown[other] and one != other:
                found[one][other] = 0
        for name, parent, state in rows[1:]:
            above = [row[2] for row in rows if row[0] == parent][0]
            for one, other in ((name, parent), (parent, name)):
                found[one][other] = min(spans(state, above), found[one].get(other, 99))
        return shown, found

    def cheapest(self, deeds, rows, one, text):
        """The least cost and the least number of names of a way with it, by trying all ways without a turn back."""
        shown, steps = self.steps(deeds, rows)
        best = None
        ways = [(0, [one])]
        while ways:
            ends = [(price, len(way)) for price, way in ways if shown[way[-1]] == text]
            best = min(ends + ([best] if best else []), default=None)
            ways = [(price + steps[way[-1]][name], way + [name])
                    for price, way in ways for name in steps[way[-1]] if name not in way]
        return best

    def test_all(self):
        used = 0
        for seed in range(60):
            deeds = random_deeds(seed, 6, letters="a" if seed % 3 else "ab", drops=2)
            rows = random_tree(seed, 1 + seed % 6, deeds)
            tree = Tree(History(deeds), rows)
            shown, steps = self.steps(deeds, rows)
            for name in shown:
                for text in sorted(set(shown.values())) + ["zzz"]:
                    found = doors(tree, name, text)
                    wanted = self.cheapest(deeds, rows, name, text)
                    if wanted is None:
                        self.assertIsNone(found)
                        continue
                    price, way = found
                    self.assertEqual((price, len(way)), wanted)
                    self.assertEqual((way[0], shown[way[-1]]), (name, text))
                    self.assertEqual(price, sum(steps[one][other] for one, other in zip(way, way[1:])))
                    if price < min(cost(tree, name, other) for other in shown if shown[other] == text):
                        used += 1
        self.assertGreater(used, 0)

    def test_edges(self):
        tree = plain_tree()
        self.assertEqual(doors(tree, "two", "axb"), (0, ["two"]))
        self.assertIsNone(doors(tree, "top", "b"))
        given = plain()
        # From "a" to "c" costs 3 along the tree, and nothing through the door; from there on "d" is one step away.
        rows = [("a", None, [ANN]), ("b", "a", []), ("c", "b", [ANN]), ("d", "c", [ANN, BOB])]
        self.assertEqual(doors(Tree(given, rows), "a", "axb"), (1, ["a", "c", "d"]))
        rows = [("m", None, [ANN])] + [(name, above, [ANN]) for above, name in zip(NAMES, NAMES[1:])]
        rows[9] = ("e", "x", [ANN, BOB])
        self.assertEqual(doors(Tree(given, rows), "m", "axb"), (1, ["m", "x", "e"]))

    def test_errors(self):
        self.refuse_each(InvalidTree, NO_TREES, lambda value: doors(value, None, None))
        self.refuse_each(UnknownName, NO_NODES, lambda value: doors(plain_tree(), value, None))
        self.refuse_each(InvalidText, NO_TEXTS, lambda value: doors(plain_tree(), "top", value))


class GraftTest(Case):
    """[44]"""

    def test_all(self):
        for seed in range(12):
            deeds = random_deeds(seed, 5)
            given = History(deeds)
            states = naive.states(deeds)
            for base, tip, onto in product(states, repeat=3):
                wanted = set(onto) | (set(tip) - set(base))
                above = [state for state in states if wanted <= set(state)]
                self.assertEqual(graft(given, base, tip, onto), min(above, key=len))

    def test_edges(self):
        given = History(heap(24))
        top = whole(given)
        self.assertEqual(graft(given, [], top, []), top)
        self.assertEqual(graft(given, top, top, []), [])
        self.assertEqual(graft(given, top, [], top[:2]), top[:2])
        self.assertEqual(graft(History([]), [], [], []), [])

    def test_errors(self):
        self.refuse_each(InvalidHistory, NO_HISTORIES, lambda value: graft(value, None, None, None))
        self.refuse_each(InvalidState, no_states(), lambda value: graft(plain(), value, None, None))
        self.refuse_each(InvalidState, no_states(), lambda value: graft(plain(), [], value, None))
        self.refuse_each(InvalidState, no_states(), lambda value: graft(plain(), [], [], value))

    def test_arguments_stay(self):
        base, tip, onto = [ANN], [ANN, BOB], [ANN, DROP]
        result = graft(plain(), base, tip, onto)
        result.clear()
        self.assertEqual((base, tip, onto), ([ANN], [ANN, BOB], [ANN, DROP]))


if __name__ == "__main__":
    unittest.main()
