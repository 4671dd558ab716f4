"""The worked examples of the document, with the answers that stand below them."""

import unittest

from everrow.authors import alone, by_hands, fewest_hands, turned_by, without
from everrow.brackets import closing, open_state, opened, outline_of, skeleton, unfair
from everrow.changes import Change, done, joined, undone
from everrow.cursors import alike_at, meet_within, pressed_at, unlike_at
from everrow.display import (
    ends_alike, least_width, pieces, place_at, screen, scrolled, smooth, spot, stepped, widths,
)
from everrow.editor import Editor
from everrow.fitting import fit_at, fit_number, how_many_both, how_many_fit, how_many_part
from everrow.hands import Net
from everrow.history import History, closure, ever_row, heart, rests, text_of, whole
from everrow.journal import (
    always, crashes, fewest_lost, how_many_orders, journal, left_state, line_of, next_apart, order_at, possible,
    recovered,
)
from everrow.keys import alike, idle, needless, often, outcome, pressed, unlike
from everrow.marks import apart, folded, is_lost, meeting, place_of, strays
from everrow.orders import alike_lines, commute_lines, played, settled, shows, source, undoes, unlike_line
from everrow.outlines import (
    deeper, fewest_in, flatter, how_many_outlines, outline_at, shift_change, shifted, steeper, unlike_outline,
)
from everrow.patterns import common_text, fits, matches, next_match, parting_text, settle, struck
from everrow.rights import breaks, fewest_bars, granted, parting_deed
from everrow.seen import best, read, trimmed, whenever
from everrow.spelling import between_two, mended, mending, nearest, parting_string, slips
from everrow.states import how_many, into, out, parted, showing, state_at, texts, way
from everrow.tables import (
    count_after, fate, length_after, presence, present, sign_after, turned, worst_sign,
)
from everrow.texts import read_history, write_history, wrong_line
from everrow.three import both, merges, over, rubbing
from everrow.trees import Tree, bent, cost, doors, graft, kept, unserved
from everrow.windows import covering, least_room, rooms, scattered, settling, unlike_size
from everrow.words import keeping, meant, staying, terms, two_meanings, two_rows, typed

DEEDS = [
    ("put", (1, "ann"), None, "ab"), ("put", (2, "bob"), (1, "ann", 0), "x"), ("drop", (3, "ann"), [(1, "ann", 1)]),
]


class ExamplesTest(unittest.TestCase):

    def test_histories(self):
        history = History(DEEDS)
        self.assertEqual(
            [text_of(history, whole(history)), text_of(history, [(1, "ann"), (2, "bob")]), ever_row(history)[1],
             rests(history, (2, "bob")), closure(history, [(3, "ann")]), heart(history, [(2, "bob"), (3, "ann")])],
            ["ax", "axb", (2, "bob", 0), [(1, "ann")], [(1, "ann"), (3, "ann")], []],
        )

    def test_states(self):
        history = History(DEEDS)
        self.assertEqual(
            [out(history, whole(history), (1, "ann")), into(history, [], (2, "bob")),
             len(way(history, whole(history), [(1, "ann")])), how_many(history, [], whole(history)),
             state_at(history, [], whole(history), 3), texts(history), showing(history, "a"),
             parted(history, whole(history), [])],
            [[], [(1, "ann"), (2, "bob")], 2, 5, [(1, "ann"), (2, "bob"), (3, "ann")], ["", "a", "ab", "ax", "axb"],
             [(1, "ann"), (3, "ann")], []],
        )

    def test_hands(self):
        net = Net(["ann", "bob"])
        _, second = net.put("ann", None, "ab"), net.put("ann", (1, "ann", 1), "c")
        net.send("ann", "bob", [second])
        self.assertEqual(
            [second, net.waiting("bob"), net.text("bob"), net.lacks("bob", "ann"), net.rounds()],
            [(2, "ann"), [(2, "ann")], "", [(1, "ann")], [("ann", "bob")]],
        )

    def test_trees(self):
        history = History(DEEDS)
        rows = [("top", None, []), ("one", "top", [(1, "ann")]), ("two", "one", [(1, "ann"), (2, "bob")])]
        tree = Tree(history, rows + [("three", "one", [(1, "ann"), (3, "ann")])])
        self.assertEqual(
            [cost(tree, "two", "three"), bent(tree), kept(tree, 1), len(unserved(tree, 0)), doors(tree, "top", "a"),
             graft(history, [(1, "ann")], [(1, "ann"), (2, "bob")], [(1, "ann"), (3, "ann")])],
            [2, None, ["one"], 4, (2, ["top", "one", "three"]), [(1, "ann"), (2, "bob"), (3, "ann")]],
        )

    def test_seen(self):
        history = History(DEEDS)
        self.assertEqual(
            [best(history, [(1, "ann", 0), (1, "ann", 1)]), best(history, [(1, "ann", 0), (2, "bob", 0)]),
             read(history, "xb"), read(history, "ba"), whenever(history, (2, "bob", 0), (1, "ann", 1)),
             trimmed(history, [[]])[0].deeds()],
            [[(1, "ann")], [(1, "ann"), (2, "bob"), (3, "ann")],
             ([(2, "bob", 0), (1, "ann", 1)], [(1, "ann"), (2, "bob")]), None,
             [(1, "ann"), (2, "bob"), (3, "ann")], []],
        )

    def test_marks(self):
        history = History(DEEDS)
        bob, end = (2, "bob", 0), ("behind", (1, "ann", 1))
        self.assertEqual(
            [place_of(history, whole(history), ("behind", bob)), is_lost(history, whole(history), end),
             meeting(history, ("behind", (1, "ann", 0)), ("last",)), apart(history, ("ahead", bob), ("behind", bob))],
            [2, True, [(1, "ann"), (3, "ann")], [(1, "ann"), (2, "bob")]],
        )
        self.assertEqual(
            [strays(history, [[(1, "ann")], [(1, "ann"), (3, "ann")], [(1, "ann")]], end),
             folded(history, [(1, "ann"), (2, "bob")], [(("ahead", bob), end)])],
            [2, "a~"],
        )

    def test_changes_and_keys(self):
        back = undone(Change(3, [0, 2]), "abc")
        self.assertEqual(
            [done(Change(3, [0, "x", 2]), "abc"), joined(Change(3, [0, 2]), Change(2, ["y", 1])).row(), back.row(),
             pressed("abc", 1, [("write", "x"), ("left", 1), ("cut", 2)])],
            ["axc", ["y", 2], [0, "b", 1], ("ac", 1)],
        )
        self.assertEqual(
            [alike([("left", 1), ("right", 1)], []), len(unlike([("left", 1), ("right", 1)], [])[0]),
             idle([("write", "x"), ("rub", 1)]), needless([("left", 9), ("first",)]),
             outcome("abcd", 2, [("rub", 1), ("right", 1)]), often("ab", 0, [("write", "xy"), ("cut", 1)], 10 ** 18)],
            [False, 1, True, [0], ("stands", 4, "", 0), (2000000000000000000, 2000000000000000000)],
        )

    def test_patterns(self):
        gap = ["ab", ("gap",), "b"]
        self.assertEqual(
            [fits(gap, "abab"), matches(gap, "abab b"), struck(gap, "abab b"), next_match(["b"], "abab", 2),
             next_match(["aa"], "abab", 2)],
            [True, [(0, 4)], [3], (3, 4), None],
        )
        self.assertEqual(
            [parting_text(["a", ("gap",), "b"], ["ab"]), common_text(["a", ("gap",), "b"], [("set", "ab"), "cb"]),
             parting_text(["ab"], [("set", "a"), "b"])],
            ["a b", "acb", None],
        )
        self.assertEqual(
            [settle([("ab", "b")], "aab", 9), settle([("a", "b"), ("b", "a")], "ab", 9), settle([("a", "aa")], "a", 3)],
            [("ends", 2, "b"), ("ends", 1, "aa"), ("outgrows", 2)],
        )

    def test_fitting(self):
        self.assertEqual(
            [how_many_fit(["a", ("gap",), "b"], 3), fit_at(["a", ("gap",), "b"], 3, 0),
             fit_number(["a", ("gap",), "b"], "aab"), how_many_both(["a", ("gap",), "b"], [("set", "ab"), "ab"], 3),
             how_many_part(["ab"], [("set", "ac"), "b"], 2)],
            [27, "a b", 1, 1, 1],
        )

    def test_tables(self):
        self.assertEqual(
            [turned([("a", "ab"), ("b", "")], "aba c"), fate([("a", "ab"), ("b", "b")], "aa"),
             fate([("a", "b"), ("b", "a")], "ab"), fate([("a", "")], "ab"), worst_sign([("b", "a"), ("a", "aa")])],
            ["abab c", ("creeps", 1), ("ring", 0, 2), ("ends", 1), "b"],
        )
        self.assertEqual(
            [length_after([("a", "ab")], "a", 10 ** 18), count_after([("a", "ab")], "aa", 5, "b"),
             sign_after([("a", "ba")], "a", 10 ** 18, 10 ** 18)],
            [1000000000000000001, 10, "a"],
        )
        self.assertEqual(
            [present([("a", "bc"), ("b", "a")], "a", 3), presence([("a", "b"), ("b", "a")], "a"),
             presence([("a", "ab")], "a")],
            ["bc", (0, 2), (1, 1)],
        )

    def test_orders(self):
        self.assertEqual(
            [played([("replace", "aa", "b"), ("front", "c"), ("last", 1)], "aaaxa"),
             unlike_line([("first", 1)], [("last", 1)]),
             commute_lines([("replace", "a", "b")], [("replace", "b", "a")])],
            ["cbax", " a", False],
        )
        self.assertEqual(
            [settled([("replace", "aa", "a")]), source([("replace", "ab", "")], "ab"),
             shows([("replace", "a", "")], "a"), undoes([("front", "a")], [("first", 1)]),
             alike_lines([("letters", [("a", "b")])], [("replace", "a", "b")])],
            [False, "aabb", None, True, True],
        )

    def test_display(self):
        text = "ab cde f\n\nabcdefg h"
        self.assertEqual(
            [pieces("ab cde f", 5), screen(text, 5)[2:], screen(text, 5, [(0, 1)])[1:3], spot(text, 5, 3),
             place_at(text, 5, 0, 9), stepped(text, 5, 5, 1, 2)],
            [["ab ", "cde f"], [(1, 0, ""), (2, 0, "abcdefg "), (2, 8, "h")], [(0, 3, "cde f"), (2, 0, "abcdefg ")],
             (1, 0), 2, 9],
        )
        self.assertEqual(
            [least_width(text, 4), widths(text), smooth("ab cde f", 5), scrolled(10, 0, 4, 6),
             ends_alike("ab cde f", "xx cde f", 5)],
            [8, [5, 8, 9], (4, [0, 3]), 3, 1],
        )

    def test_journal_and_texts(self):
        deeds = [("put", (1, "ann"), None, "ab"), ("drop", (2, "bob"), [(1, "ann", 0)]),
                 ("put", (2, "cy"), (1, "ann", 1), "c ")]
        history = History(deeds)
        order = order_at(history, 0)
        text = journal(history, order)
        self.assertEqual(
            [line_of(deeds[0]), line_of(deeds[2]), how_many_orders(history), len(text),
             recovered(text[:30]) == (History(deeds[:1]), 21), len(crashes(history, order, 1))],
            ["14:put 1 ann - ab;74", "19:put 2 cy 1 ann 1 c_;04", 2, 72, True, 3],
        )
        self.assertEqual(
            [left_state(history, order, 10, [3]), always(history, order, 10, [0, 1, 2]),
             possible(history, order, 10, [4], [(1, "ann")]), fewest_lost(history, order, 10, [], [(1, "ann")]),
             len(next_apart(history, order, 10, [], [(1, "ann")]))],
            [[(1, "ann"), (2, "cy")], [(1, "ann")], True, [4], 1],
        )
        self.assertEqual(
            [read_history(write_history(history)) == history, wrong_line(text), wrong_line(text + "x")],
            [True, None, 4],
        )

    def test_editor(self):
        pen, other = Editor("ann"), Editor("bob")
        self.assertEqual(
            [pen.write("ab cd"), pen.to(2), pen.write("x"), pen.text(), pen.rub(2), pen.text(), pen.undo(), pen.undo(),
             pen.text(), pen.place()],
            [[(1, "ann")], 2, [(2, "ann")], "abx cd", [(3, "ann")], "a cd", [(3, "ann")], [(2, "ann")], "ab cd", 2],
        )
        self.assertEqual(
            [pen.ordered(0, 0, [("replace", "cd", "dc")]), pen.text(), other.receive(pen.journal()), other.text()],
            [[(4, "ann"), (5, "ann")], "ab dc", [(1, "ann"), (2, "ann"), (3, "ann"), (4, "ann"), (5, "ann")], "a dc"],
        )

    def test_cursors(self):
        one, other = [("rub", 1), ("write", "x")], [("write", "x"), ("left", 1), ("rub", 1), ("right", 1)]
        self.assertEqual(
            [pressed_at("abc", [1, 2], one), pressed_at("abc", [1, 2], other), alike_at(one, other, 1),
             unlike_at(one, other, 2)[1], meet_within(one)],
            [("xc", [1]), ("xxc", [1, 2]), True, [0, 1], 1],
        )

    def test_three(self):
        one, other = Change(3, [0, "x", 1, 2]), Change(3, [0, 1, "y"])
        self.assertEqual(
            [both(one, other).row(), over(one, other).row(), rubbing(one, Change(3, ["z", 2])),
             merges("a\nb\nc", "a\nx\nc", "a\nb\nc\nd"), merges("a", "b", "c")],
            [[0, "x", 1, "y"], [0, "x", 1, 2], [(0, 1, -1, 2)], ["a\nx\nc\nd"], []],
        )

    def test_outlines_and_brackets(self):
        one, other, pair = "x\n y\nz", "x\ny\n z", [("a", "b")]
        self.assertEqual(
            [shifted(one, [("in", 2), ("out", 0)]), shift_change(one, ("out", 1)).row(), deeper(one, other),
             flatter(one, other), steeper(one, other)],
            ["x\n y\n z", [0, 1, 3, 4, 5], False, "x\ny\nz", "x\n y\n  z"],
        )
        self.assertEqual(
            [len(fewest_in("x\ny\nz", "x\n y\n  z")), how_many_outlines("x\ny\nz", "x\n y\n  z"),
             outline_at("x\ny\nz", "x\n y\n  z", 1), unlike_outline([("in", 1), ("out", 1)], []), skeleton(one),
             outline_of("aabb")],
            [2, 5, "x\ny\n z", "\n ", "aabbab", "\n "],
        )
        history = History([("put", (1, "ann"), None, "ab"), ("put", (2, "bob"), (1, "ann", 0), "ba")])
        self.assertEqual(
            [open_state(history, pair), unfair(history, pair), closing(history, pair, whole(history)),
             opened(pair, [("c", "ba")]), opened(pair, [("a", "aa")])],
            [None, (2, "bob"), [(1, "ann"), (2, "bob")], "c", "ab"],
        )

    def test_words_and_spelling(self):
        shorts, book = [("a", "x"), ("ab", "xy"), ("b", "y"), ("ba", "yy")], ["cat", "cot", "dog"]
        text = "to be or to"
        self.assertEqual(
            [terms("a bc"), len(staying(text, keeping(text, "or to be"))), typed(shorts, [1, 0]), meant(shorts, [1, 0]),
             two_rows(shorts)[0], two_meanings(shorts)[0], two_meanings(shorts[:3])],
            [[(0, "a"), (2, "bc")], 2, "aba", "xyx", "ab", "ba", None],
        )
        self.assertEqual(
            [slips("ca", "abc"), slips("form", "from"), nearest(book, "cet"), mended(book, "xxx", 2),
             mending(book, "a cta", 1).row(), parting_string(["ab"], ["abc"], 1), between_two(book, 1)],
            [3, 1, (1, ["cat", "cot"]), None, [0, 1, 2, "a", "t"], "a", "ct"],
        )

    def test_authors_and_rights(self):
        history = History(DEEDS)
        self.assertEqual(
            [by_hands(history, [(1, "ann"), (2, "bob")]), without(history, whole(history), "bob"),
             alone(history, ["bob"]),
             fewest_hands(history, "ax"), turned_by(history, "ann", (1, "ann", 1))],
            [[("ann", "a"), ("bob", "x"), ("ann", "b")], [(1, "ann"), (3, "ann")], [], ["ann", "bob"],
             ([], [(1, "ann")])],
        )
        tail = ("ann", (("behind", (2, "bob", 0)), ("last",)))
        self.assertEqual(
            [breaks(history, [tail]), granted(history, [tail]), parting_deed(history, [tail], []) is None,
             fewest_bars(history, [tail, ("ann", (("first",), ("ahead", (1, "ann", 1))))])],
            [[(1, "ann"), (3, "ann")], [], False, [("ann", (("first",), ("last",)))]],
        )

    def test_windows(self):
        layout, text = ("across", [(2, "a"), (1, ("down", [(1, "b"), (1, "c")]))]), "ab cde f\n\nabcdefg h"
        self.assertEqual(
            [rooms(layout, 7, 5), least_room(layout, [("c", 2, 2)]),
             unlike_size(("down", [(1, "a"), (1, "b")]), ("down", [(1, "b"), (1, "a")]))],
            [[("a", 0, 0, 5, 5), ("b", 5, 0, 2, 3), ("c", 5, 3, 2, 2)], (6, 4), 1],
        )
        self.assertEqual(
            [settling(text, 5, 8, 1), covering(text, 5, 2, [0, 4, 10, 18]), len(scattered(text, 5, 2, [0, 4, 10, 18]))],
            [(1, 0), [0, 3], 2],
        )


if __name__ == "__main__":
    unittest.main()
