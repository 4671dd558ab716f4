"""The worked examples of the document, with the answers that stand below them."""

import unittest

from everrow.changes import Change, done, joined, undone
from everrow.fitting import fit_at, fit_number, how_many_both, how_many_fit, how_many_part
from everrow.hands import Net
from everrow.history import History, closure, ever_row, heart, rests, text_of, whole
from everrow.keys import alike, idle, needless, often, outcome, pressed, unlike
from everrow.marks import apart, folded, is_lost, meeting, place_of, strays
from everrow.patterns import common_text, fits, matches, next_match, parting_text, settle, struck
from everrow.seen import best, read, trimmed, whenever
from everrow.states import how_many, into, out, parted, showing, state_at, texts, way
from everrow.trees import Tree, bent, cost, doors, graft, kept, unserved

DEEDS = [
    ("put", (1, "ann"), None, "ab"), ("put", (2, "bob"), (1, "ann", 0), "x"), ("drop", (3, "ann"), [(1, "ann", 1)]),
]


class ExamplesTest(unittest.TestCase):

    def test_histories(self):
        history = History(DEEDS)
        self.assertEqual(
            [text_of(history, whole(history)), text_of(history, [(1, "ann"), (2, "bob")]), ever_row(history)[1],
             rests(history, (2, "bob")), closure(history, [(3, "ann")]), heart(history, [(2, "bob"), (3, "ann")])],
            ["ax", "axb", (2, "bob", 0), [(1, "ann")], [(1, "ann"), (3, "ann")], []],
        )

    def test_states(self):
        history = History(DEEDS)
        self.assertEqual(
            [out(history, whole(history), (1, "ann")), into(history, [], (2, "bob")),
             len(way(history, whole(history), [(1, "ann")])), how_many(history, [], whole(history)),
             state_at(history, [], whole(history), 3), texts(history), showing(history, "a"),
             parted(history, whole(history), [])],
            [[], [(1, "ann"), (2, "bob")], 2, 5, [(1, "ann"), (2, "bob"), (3, "ann")], ["", "a", "ab", "ax", "axb"],
             [(1, "ann"), (3, "ann")], []],
        )

    def test_hands(self):
        net = Net(["ann", "bob"])
        _, second = net.put("ann", None, "ab"), net.put("ann", (1, "ann", 1), "c")
        net.send("ann", "bob", [second])
        self.assertEqual(
            [second, net.waiting("bob"), net.text("bob"), net.lacks("bob", "ann"), net.rounds()],
            [(2, "ann"), [(2, "ann")], "", [(1, "ann")], [("ann", "bob")]],
        )

    def test_trees(self):
        history = History(DEEDS)
        rows = [("top", None, []), ("one", "top", [(1, "ann")]), ("two", "one", [(1, "ann"), (2, "bob")])]
        tree = Tree(history, rows + [("three", "one", [(1, "ann"), (3, "ann")])])
        self.assertEqual(
            [cost(tree, "two", "three"), bent(tree), kept(tree, 1), len(unserved(tree, 0)), doors(tree, "top", "a"),
             graft(history, [(1, "ann")], [(1, "ann"), (2, "bob")], [(1, "ann"), (3, "ann")])],
            [2, None, ["one"], 4, (2, ["top", "one", "three"]), [(1, "ann"), (2, "bob"), (3, "ann")]],
        )

    def test_seen(self):
        history = History(DEEDS)
        self.assertEqual(
            [best(history, [(1, "ann", 0), (1, "ann", 1)]), best(history, [(1, "ann", 0), (2, "bob", 0)]),
             read(history, "xb"), read(history, "ba"), whenever(history, (2, "bob", 0), (1, "ann", 1)),
             trimmed(history, [[]])[0].deeds()],
            [[(1, "ann")], [(1, "ann"), (2, "bob"), (3, "ann")],
             ([(2, "bob", 0), (1, "ann", 1)], [(1, "ann"), (2, "bob")]), None,
             [(1, "ann"), (2, "bob"), (3, "ann")], []],
        )

    def test_marks(self):
        history = History(DEEDS)
        bob, end = (2, "bob", 0), ("behind", (1, "ann", 1))
        self.assertEqual(
            [place_of(history, whole(history), ("behind", bob)), is_lost(history, whole(history), end),
             meeting(history, ("behind", (1, "ann", 0)), ("last",)), apart(history, ("ahead", bob), ("behind", bob))],
            [2, True, [(1, "ann"), (3, "ann")], [(1, "ann"), (2, "bob")]],
        )
        self.assertEqual(
            [strays(history, [[(1, "ann")], [(1, "ann"), (3, "ann")], [(1, "ann")]], end),
             folded(history, [(1, "ann"), (2, "bob")], [(("ahead", bob), end)])],
            [2, "a~"],
        )

    def test_changes_and_keys(self):
        back = undone(Change(3, [0, 2]), "abc")
        self.assertEqual(
            [done(Change(3, [0, "x", 2]), "abc"), joined(Change(3, [0, 2]), Change(2, ["y", 1])).row(), back.row(),
             pressed("abc", 1, [("write", "x"), ("left", 1), ("cut", 2)])],
            ["axc", ["y", 2], [0, "b", 1], ("ac", 1)],
        )
        self.assertEqual(
            [alike([("left", 1), ("right", 1)], []), len(unlike([("left", 1), ("right", 1)], [])[0]),
             idle([("write", "x"), ("rub", 1)]), needless([("left", 9), ("first",)]),
             outcome("abcd", 2, [("rub", 1), ("right", 1)]), often("ab", 0, [("write", "xy"), ("cut", 1)], 10 ** 18)],
            [False, 1, True, [0], ("stands", 4, "", 0), (2000000000000000000, 2000000000000000000)],
        )

    def test_patterns(self):
        gap = ["ab", ("gap",), "b"]
        self.assertEqual(
            [fits(gap, "abab"), matches(gap, "abab b"), struck(gap, "abab b"), next_match(["b"], "abab", 2),
             next_match(["aa"], "abab", 2)],
            [True, [(0, 4)], [3], (3, 4), None],
        )
        self.assertEqual(
            [parting_text(["a", ("gap",), "b"], ["ab"]), common_text(["a", ("gap",), "b"], [("set", "ab"), "cb"]),
             parting_text(["ab"], [("set", "a"), "b"])],
            ["a b", "acb", None],
        )
        self.assertEqual(
            [settle([("ab", "b")], "aab", 9), settle([("a", "b"), ("b", "a")], "ab", 9), settle([("a", "aa")], "a", 3)],
            [("ends", 2, "b"), ("ends", 1, "aa"), ("outgrows", 2)],
        )

    def test_fitting(self):
        self.assertEqual(
            [how_many_fit(["a", ("gap",), "b"], 3), fit_at(["a", ("gap",), "b"], 3, 0),
             fit_number(["a", ("gap",), "b"], "aab"), how_many_both(["a", ("gap",), "b"], [("set", "ab"), "ab"], 3),
             how_many_part(["ab"], [("set", "ac"), "b"], 2)],
            [27, "a b", 1, 1, 1],
        )


if __name__ == "__main__":
    unittest.main()
