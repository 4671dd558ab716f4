"""The worked examples of the document, with the answers that stand below them."""

import unittest

from everrow.hands import Net
from everrow.history import History, closure, ever_row, heart, rests, text_of, whole
from everrow.marks import apart, folded, is_lost, meeting, place_of, strays
from everrow.seen import best, read, trimmed, whenever
from everrow.states import how_many, into, out, parted, showing, state_at, texts, way
from everrow.trees import Tree, bent, cost, doors, graft, kept, unserved

DEEDS = [
    ("put", (1, "ann"), None, "ab"), ("put", (2, "bob"), (1, "ann", 0), "x"), ("drop", (3, "ann"), [(1, "ann", 1)]),
]


class ExamplesTest(unittest.TestCase):

    def test_histories(self):
        history = History(DEEDS)
        self.assertEqual(
            [text_of(history, whole(history)), text_of(history, [(1, "ann"), (2, "bob")]), ever_row(history)[1],
             rests(history, (2, "bob")), closure(history, [(3, "ann")]), heart(history, [(2, "bob"), (3, "ann")])],
            ["ax", "axb", (2, "bob", 0), [(1, "ann")], [(1, "ann"), (3, "ann")], []],
        )

    def test_states(self):
        history = History(DEEDS)
        self.assertEqual(
            [out(history, whole(history), (1, "ann")), into(history, [], (2, "bob")),
             len(way(history, whole(history), [(1, "ann")])), how_many(history, [], whole(history)),
             state_at(history, [], whole(history), 3), texts(history), showing(history, "a"),
             parted(history, whole(history), [])],
            [[], [(1, "ann"), (2, "bob")], 2, 5, [(1, "ann"), (2, "bob"), (3, "ann")], ["", "a", "ab", "ax", "axb"],
             [(1, "ann"), (3, "ann")], []],
        )

    def test_hands(self):
        net = Net(["ann", "bob"])
        _, second = net.put("ann", None, "ab"), net.put("ann", (1, "ann", 1), "c")
        net.send("ann", "bob", [second])
        self.assertEqual(
            [second, net.waiting("bob"), net.text("bob"), net.lacks("bob", "ann"), net.rounds()],
            [(2, "ann"), [(2, "ann")], "", [(1, "ann")], [("ann", "bob")]],
        )

    def test_trees(self):
        history = History(DEEDS)
        rows = [("top", None, []), ("one", "top", [(1, "ann")]), ("two", "one", [(1, "ann"), (2, "bob")])]
        tree = Tree(history, rows + [("three", "one", [(1, "ann"), (3, "ann")])])
        self.assertEqual(
            [cost(tree, "two", "three"), bent(tree), kept(tree, 1), len(unserved(tree, 0)), doors(tree, "top", "a"),
             graft(history, [(1, "ann")], [(1, "ann"), (2, "bob")], [(1, "ann"), (3, "ann")])],
            [2, None, ["one"], 4, (2, ["top", "one", "three"]), [(1, "ann"), (2, "bob"), (3, "ann")]],
        )

    def test_seen(self):
        history = History(DEEDS)
        self.assertEqual(
            [best(history, [(1, "ann", 0), (1, "ann", 1)]), best(history, [(1, "ann", 0), (2, "bob", 0)]),
             read(history, "xb"), read(history, "ba"), whenever(history, (2, "bob", 0), (1, "ann", 1)),
             trimmed(history, [[]])[0].deeds()],
            [[(1, "ann")], [(1, "ann"), (2, "bob"), (3, "ann")],
             ([(2, "bob", 0), (1, "ann", 1)], [(1, "ann"), (2, "bob")]), None,
             [(1, "ann"), (2, "bob"), (3, "ann")], []],
        )

    def test_marks(self):
        history = History(DEEDS)
        bob, end = (2, "bob", 0), ("behind", (1, "ann", 1))
        self.assertEqual(
            [place_of(history, whole(history), ("behind", bob)), is_lost(history, whole(history), end),
             meeting(history, ("behind", (1, "ann", 0)), ("last",)), apart(history, ("ahead", bob), ("behind", bob))],
            [2, True, [(1, "ann"), (3, "ann")], [(1, "ann"), (2, "bob")]],
        )
        self.assertEqual(
            [strays(history, [[(1, "ann")], [(1, "ann"), (3, "ann")], [(1, "ann")]], end),
             folded(history, [(1, "ann"), (2, "bob")], [(("ahead", bob), end)])],
            [2, "a~"],
        )


if __name__ == "__main__":
    unittest.main()
