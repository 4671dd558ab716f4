"""[120] to [124]: editors."""

import unittest
from itertools import permutations
from random import Random

from everrow.changes import deeds_for
from everrow.display import spot, stepped
from everrow.editor import Editor
from everrow.errors import (
    InvalidHistory, InvalidItem, InvalidKeys, InvalidList, InvalidName, InvalidNumber, InvalidPattern, InvalidState,
    InvalidText, NothingToUndo, TakenName, UnknownName,
)
from everrow.history import History, deed_names, is_state, text_of, whole
from everrow.keys import effect, pressed
from everrow.orders import played
from everrow.patterns import matches, replaced
from everrow.states import how_many, state_at
from tests import naive
from tests.cases import Case
from tests.editing import Model
from tests.makers import (
    NO_HISTORIES, NO_LISTS, NO_NAMES, NO_NUMBERS, NO_TEXTS, PLAIN, chain, heap, mixed, no_states, plain, random_deeds,
)
from tests.test_journal import NO_DEEDS
from tests.test_keys import NO_KEYS
from tests.test_orders import NO_ORDERS
from tests.test_patterns import NO_PATTERNS
from tests.typing_by_hand import random_keys

FAR = ("put", (9, "zoe"), (8, "zoe", 0), "z")


def told(pen):
    """What an editor tells of what it has."""
    return (pen.history().deeds(), pen.journal(), pen.state(), pen.text(), pen.place(), pen.waiting())


def all_told(pen, names=("a", "b")):
    """The same with what it has kept, and what can be undone and redone, which is tried at copies."""
    found = [told(pen)]
    for name in names:
        for call in ("at", "back_to"):
            twin = pen.copy()
            try:
                found.append((getattr(twin, call)(name), told(twin)))
            except UnknownName:
                found.append(None)
    for calls in (["undo"] * 9, ["redo"] * 9, ["undo", "undo", "redo", "redo", "redo"]):
        twin = pen.copy()
        for call in calls:
            try:
                found.append((getattr(twin, call)(), told(twin)))
            except NothingToUndo:
                found.append(None)
    return found


def busy():
    """An editor in which there is some of all."""
    pen = Editor("ann", plain())
    pen.keep("a")
    pen.mark("a")
    pen.write("hello you")
    pen.to(3)
    pen.rub(2)
    pen.mark("b")
    pen.keep("b")
    pen.receive([FAR])
    pen.write("x")
    pen.undo()
    return pen


class MadeTest(Case):
    """[120]"""

    def test_of_none(self):
        for pen in (Editor("ann"), Editor("ann", None), Editor("ann", History([])), Editor(hand="ann", history=None)):
            self.assertEqual(told(pen), ([], [], [], "", 0, []))
            self.assertEqual(pen.history(), History([]))

    def test_of_a_history(self):
        for seed in range(20):
            deeds = random_deeds(seed, seed % 8, drops=2)
            given = History(deeds)
            pen = Editor("zoe", given)
            self.assertEqual(pen.history(), given)
            text = text_of(given, whole(given))
            self.assertEqual(told(pen), (given.deeds(), given.deeds(), whole(given), text, len(text), []))

    def test_24_deeds(self):
        for deeds in (heap(24), chain(24, "abcdef"), mixed(12, 12)):
            pen = Editor("a", History(deeds))
            self.assertEqual(pen.state(), sorted(deed[1] for deed in deeds))
            self.assertEqual(pen.to(1), 1)
            self.refuse_full(pen, lambda: pen.write("x"))
            self.refuse_full(pen, lambda: pen.rub(1))
            self.assertEqual(pen.receive(deeds), [])

    def refuse_full(self, pen, call):
        """A 25th deed may be refused, and then nothing changes."""
        before = all_told(pen)
        with self.assertRaises(InvalidList):
            call()
        self.assertEqual(all_told(pen), before)

    def test_up_to_24_deeds(self):
        pen = Editor("ann")
        self.assertEqual(pen.write("abcdef" * 20), [(k, "ann") for k in range(1, 21)])
        self.assertEqual(pen.rub(24), [(k, "ann") for k in range(21, 25)])
        self.assertEqual(pen.text(), "abcdef" * 16)
        self.assertEqual(len(pen.history().deeds()), 24)

    def test_errors(self):
        self.refuse_each(InvalidName, NO_NAMES, lambda value: Editor(value, 0))
        self.refuse_each(InvalidHistory, NO_HISTORIES[1:] + [False, "", 0], lambda value: Editor("ann", value))


class DoingTest(Case):
    """[120] to [124], step by step beside a model of the words of the document"""

    def check(self, pen, model):
        self.assertEqual((*told(pen), [pen.at(name) for name in sorted(model.marks)]), model.all_told())
        self.assertTrue(is_state(pen.history(), pen.state()))

    def do(self, chance, pen, model):
        """Does one thing to both, and holds that they return the same."""
        words = ["write", "write", "rub", "to", "to", "undo", "undo", "redo", "redo", "goto", "line", "rows", "ordered",
                 "replaced", "pressed", "receive", "keep", "mark"]
        getattr(self, f"do_{chance.choice(words)}")(chance, pen, model)

    def do_write(self, chance, pen, model):
        text = "".join(chance.choice("ab \n") for _ in range(chance.choice([1, 2, 3, 6, 7, 12, 13])))
        self.assertEqual(pen.write(text), model.write(text))

    def do_rub(self, chance, pen, model):
        number = chance.choice([1, 2, 3, 6, 7, 13, 99])
        self.assertEqual(pen.rub(number), model.rub(number))

    def do_to(self, chance, pen, model):
        place = chance.randint(0, len(model.text()))
        self.assertEqual(pen.to(place), model.to(place))

    def do_undo(self, chance, pen, model):
        self.same_or_nothing(pen.undo, model.undo())

    def do_redo(self, chance, pen, model):
        self.same_or_nothing(pen.redo, model.redo())

    def same_or_nothing(self, call, wanted):
        if wanted is None:
            with self.assertRaises(NothingToUndo):
                call()
        else:
            self.assertEqual(call(), wanted)

    def do_goto(self, chance, pen, model):
        given = History(model.came)
        number = chance.randrange(how_many(given, [], whole(given)))
        state = chance.choice([pen.state(), whole(given), state_at(given, [], whole(given), number)])
        self.assertIsNone(pen.goto(state))
        model.goto(state)

    def do_line(self, chance, pen, model):
        text, place = model.text(), model.place()
        if chance.random() < 0.5:
            while place > 0 and text[place - 1] != "\n":
                place -= 1
            self.assertEqual(pen.home(), model.to(place))
        else:
            while place < len(text) and text[place] != "\n":
                place += 1
            self.assertEqual(pen.end(), model.to(place))

    def do_rows(self, chance, pen, model):
        width, step = chance.randint(1, 5), chance.choice([-1, 1])
        text, place = model.text(), model.place()
        wanted = stepped(text, width, place, step, spot(text, width, place)[1])
        self.assertEqual((pen.up if step < 0 else pen.down)(width), model.to(wanted))

    def do_ordered(self, chance, pen, model):
        orders = [chance.choice([("replace", "a", "b"), ("replace", "ab", "ba"), ("front", "b"), ("back", " "),
                                 ("first", 1), ("last", 2), ("letters", [("a", "b"), ("b", "a")])])
                  for _ in range(chance.randint(0, 2))]
        last = chance.randint(0, model.text().count("\n"))
        first = chance.randint(0, last)
        self.assertEqual(pen.ordered(first, last, orders),
                         model.ordered(first, last, lambda line: played(orders, line)))

    def do_replaced(self, chance, pen, model):
        pattern, text = chance.choice([["a"], ["ab"], [("set", "ab"), " "], ["a", ("gap",), "b"]]), chance.choice(
            ["", "a", "ba", "c\n c"])
        given = History(model.came)
        base = max([deed[1][0] for deed in model.came], default=0)
        made = replaced(given, sorted(model.state), model.hand, pattern, text)
        self.assertEqual(pen.replaced(pattern, text), model.turn(made, base))

    def do_pressed(self, chance, pen, model):
        keys = random_keys(chance, chance.randint(0, 4))
        given = History(model.came)
        base = max([deed[1][0] for deed in model.came], default=0)
        text, place = model.text(), model.place()
        made = deeds_for(given, sorted(model.state), model.hand, effect(len(text), place, keys)[0])
        self.assertEqual(pen.pressed(keys), model.turn(made, base))
        self.assertEqual((pen.text(), pen.place()), pressed(text, place, keys))
        model.to(pen.place())

    def do_receive(self, chance, pen, model):
        # Deeds of another hand that go on with what is there, a few at a time, in any order and often in part.
        base = max([deed[1][0] for deed in model.came], default=0)
        signs = sorted(naive.signs(model.came))
        deeds = [("put", (base + k, "zoe"), chance.choice([None] + signs), "yz"[k % 2] * k) for k in (1, 2)]
        deeds += [("put", (base + 3, "zoe"), (base + 1, "zoe", 0), "w"),
                  ("drop", (base + 4, "bob"),
                   sorted(chance.sample(signs, min(2, len(signs))) + [(base + 3, "zoe", 0)])),
                  ("put", (base + 2, "ann"), (base + 3, "zoe", 0), "n"),
                  ("put", (base + 5, "y"), (base + 2, "zoe", 3), "n")]
        if chance.random() < 0.3:
            deeds = [("put", (name[0] + 1, "x"), (*name, 0), "v") for name in list(model.waits)[:1]] + [
                waited for waited in self.later if waited[1] not in model.waits][:3] + model.came[:2]
        else:
            self.later = deeds
        chosen = chance.sample(deeds, chance.randint(0, len(deeds)))
        known = {deed[1]: deed for deed in model.came} | model.waits
        chosen = [deed for deed in chosen if known.get(deed[1], deed) == deed]
        self.assertEqual(pen.receive(chosen), model.receive(chosen))

    def do_keep(self, chance, pen, model):
        name = chance.choice("ab")
        if name in model.kept:
            self.assertIsNone(pen.back_to(name))
            model.goto(model.kept[name])
        else:
            self.assertIsNone(pen.keep(name))
            model.kept[name] = set(model.state)

    def do_mark(self, chance, pen, model):
        name = chance.choice("abcdef")
        if name not in model.marks:
            self.assertIsNone(pen.mark(name))
            model.marks[name] = model.cursor

    def test_all(self):
        for seed in range(90):
            chance = Random(seed)
            self.later = []
            deeds = random_deeds(seed, seed % 4, drops=3, letters="ab\n ", hands=("ann", "bob"))
            pen = Editor("ann", History(deeds))
            model = Model("ann", deeds)
            self.check(pen, model)
            for _ in range(40):
                if len(model.came) > 10:
                    break
                self.do(chance, pen, model)
                self.check(pen, model)
                if chance.random() < 0.1:
                    # A copy goes on, and what is done to the other one does nothing to it.
                    old, pen = pen, pen.copy()
                    old.write("gone")
                    old.goto([])
                    old.to(0)

    def test_undo_and_redo(self):
        """The same with nothing but what there is to undo."""
        words = ["write", "rub", "undo", "undo", "undo", "redo", "redo", "goto", "keep", "to", "receive"]
        for seed in range(60):
            chance = Random(seed)
            self.later = []
            pen, model = Editor("ann"), Model("ann")
            for _ in range(40):
                if len(model.came) > 12:
                    break
                getattr(self, f"do_{chance.choice(words)}")(chance, pen, model)
                self.check(pen, model)


class WritingTest(Case):
    """[121]"""

    def test_six_at_a_time(self):
        pen = Editor("ann")
        self.assertEqual(pen.write("abcdef"), [(1, "ann")])
        self.assertEqual(pen.write("ghijklmnopqrs"), [(2, "ann"), (3, "ann"), (4, "ann")])
        self.assertEqual(pen.text(), "abcdefghijklmnopqrs")
        self.assertEqual(pen.journal()[1:], [
            ("put", (2, "ann"), (1, "ann", 5), "ghijkl"), ("put", (3, "ann"), (2, "ann", 5), "mnopqr"),
            ("put", (4, "ann"), (3, "ann", 5), "s")])
        self.assertEqual((pen.to(0), pen.write("xy"), pen.place()), (0, [(5, "ann")], 2))
        self.assertEqual(pen.journal()[4], ("put", (5, "ann"), None, "xy"))

    def test_numbers_go_on_from_all_that_there_is(self):
        pen = Editor("ann", History([("put", (7, "bob"), None, "ab")]))
        self.assertEqual(pen.write("x"), [(8, "ann")])
        pen.receive([("put", (40, "zoe"), (39, "zoe", 0), "z")])
        self.assertEqual(pen.write("y"), [(41, "ann")])
        self.assertEqual(pen.rub(1), [(42, "ann")])
        pen.undo()
        self.assertEqual(pen.write("w"), [(43, "ann")])
        high = Editor("ann", History([("put", (10 ** 17, "bob"), None, "ab")]))
        self.assertEqual(high.write("abcdefg"), [(10 ** 17 + 1, "ann"), (10 ** 17 + 2, "ann")])

    def test_anchors_are_seen(self):
        # The b is dropped, so what is written behind it hangs on the a.
        pen = Editor("cy", plain())
        pen.goto([(1, "ann"), (3, "ann")])
        self.assertEqual((pen.text(), pen.place()), ("a", 1))
        pen.write("z")
        self.assertEqual(pen.journal()[-1], ("put", (4, "cy"), (1, "ann", 0), "z"))
        self.assertEqual(pen.text(), "az")

    def test_rub(self):
        pen = Editor("ann", History([("put", (1, "bob"), None, "abcdef"), ("put", (2, "bob"), None, "gh")]))
        self.assertEqual(pen.text(), "ghabcdef")
        self.assertEqual(pen.rub(99), [(3, "ann"), (4, "ann")])
        # Six at a time as they stand in the text, each list in order.
        self.assertEqual([deed[2] for deed in pen.journal()[2:]],
                         [[(1, "bob", 0), (1, "bob", 1), (1, "bob", 2), (1, "bob", 3), (2, "bob", 0), (2, "bob", 1)],
                          [(1, "bob", 4), (1, "bob", 5)]])
        self.assertEqual((pen.text(), pen.place()), ("", 0))
        self.assertEqual(pen.rub(1), [])
        self.assertEqual(len(pen.history().deeds()), 4)

    def test_places(self):
        pen = Editor("ann", History([("put", (1, "bob"), None, "ab\ncd")]))
        self.assertEqual((pen.to(0), pen.place(), pen.to(5), pen.place()), (0, 0, 5, 5))
        self.assertEqual((pen.home(), pen.place(), pen.end(), pen.place()), (3, 3, 5, 5))
        self.assertEqual((pen.to(2), pen.end(), pen.home(), pen.home()), (2, 2, 0, 0))
        self.assertEqual((pen.to(3), pen.home(), pen.end()), (3, 3, 5))
        empty = Editor("ann")
        self.assertEqual((empty.to(0), empty.home(), empty.end(), empty.up(1), empty.down(1)), (0, 0, 0, 0, 0))

    def test_rows(self):
        pen = Editor("ann")
        pen.write("ab cd\nefg")
        self.assertEqual((pen.to(1), pen.up(3), pen.place()), (1, 1, 1))
        self.assertEqual((pen.down(3), pen.down(3), pen.down(3)), (4, 7, 7))
        self.assertEqual((pen.end(), pen.down(3), pen.up(3), pen.up(9)), (9, 9, 5, 5))
        self.assertEqual((pen.to(5), pen.up(3), pen.to(9), pen.up(9)), (5, 2, 9, 3))
        self.assertEqual((pen.up(10 ** 30), pen.down(10 ** 30)), (3, 9))

    def test_the_cursor_is_a_mark(self):
        pen = Editor("ann")
        pen.write("abcd")
        pen.to(2)
        pen.write("xy")
        self.assertEqual(pen.place(), 4)
        pen.goto([])
        self.assertEqual(pen.place(), 0)
        pen.goto(whole(pen.history()))
        self.assertEqual(pen.place(), 4)
        # It stays ahead of its sign, and what others put there comes ahead of it.
        pen.receive([("put", (9, "bob"), (1, "ann", 1), "zz")])
        self.assertEqual((pen.text(), pen.place()), ("abzzxycd", 6))
        # Where its sign goes it lies between the others.
        pen.pressed([("cut", 1)])
        self.assertEqual((pen.text(), pen.place()), ("abzzxyd", 6))
        pen.to(7)
        pen.receive([("put", (12, "bob"), (1, "ann", 3), "w")])
        self.assertEqual((pen.text(), pen.place()), ("abzzxydw", 8))

    def test_errors(self):
        pen = busy()
        before = all_told(pen)
        self.refuse_each(InvalidText, NO_TEXTS + [""], pen.write)
        self.refuse_each(InvalidNumber, NO_NUMBERS + [0, -1], pen.rub)
        self.refuse_each(InvalidNumber, NO_NUMBERS + [-1, len(pen.text()) + 1], pen.to)
        for call in (pen.up, pen.down):
            self.refuse_each(InvalidNumber, NO_NUMBERS + [0, -1], call)
        self.assertEqual(all_told(pen), before)


class UndoTest(Case):
    """[122]"""

    def test_one_behind_the_other(self):
        pen = Editor("ann")
        pen.write("ab")
        pen.write("cdefghij")
        pen.rub(1)
        self.assertEqual([pen.undo(), pen.text()], [[(4, "ann")], "abcdefghij"])
        self.assertEqual([pen.undo(), pen.text()], [[(2, "ann"), (3, "ann")], "ab"])
        self.assertEqual([pen.undo(), pen.text()], [[(1, "ann")], ""])
        self.nothing(pen.undo)
        self.assertEqual([pen.redo(), pen.redo(), pen.redo()], [[(1, "ann")], [(2, "ann"), (3, "ann")], [(4, "ann")]])
        self.nothing(pen.redo)
        self.assertEqual(pen.text(), "abcdefghi")

    def nothing(self, call):
        with self.assertRaises(NothingToUndo) as caught:
            call()
        self.assertIs(type(caught.exception), NothingToUndo)

    def test_what_rests_on_it_goes_too(self):
        pen = Editor("ann")
        pen.write("ab")
        pen.receive([("put", (5, "bob"), (1, "ann", 0), "x")])
        self.assertEqual(pen.undo(), [(1, "ann"), (5, "bob")])
        self.assertEqual(pen.redo(), [(1, "ann"), (5, "bob")])
        self.assertEqual(pen.text(), "axb")

    def test_only_turns_are_undone(self):
        pen = Editor("ann", plain())
        self.nothing(pen.undo)
        pen.receive([("put", (5, "ann"), None, "x")])
        pen.goto([])
        pen.to(0)
        pen.rub(1)
        self.assertEqual((pen.pressed([("left", 1)]), pen.ordered(0, 0, []), pen.replaced(["q"], "r")), ([], [], []))
        self.nothing(pen.undo)
        self.nothing(pen.redo)

    def test_behind_goto(self):
        pen = Editor("ann")
        pen.write("ab")
        pen.write("cd")
        pen.goto([(1, "ann")])
        # The last turn all whose deeds are there is the first one.
        self.assertEqual((pen.undo(), pen.text()), ([(1, "ann")], ""))
        self.nothing(pen.undo)
        pen.goto([(1, "ann"), (2, "ann")])
        # It is taken back, though its deeds are there again.
        self.nothing(pen.redo)
        self.assertEqual((pen.undo(), pen.text()), ([(2, "ann")], "ab"))
        self.nothing(pen.undo)
        self.assertEqual((pen.redo(), pen.text()), ([(2, "ann")], "abcd"))
        self.nothing(pen.redo)

    def test_a_turn_in_part_is_passed_over(self):
        pen = Editor("ann")
        pen.write("abcdefgh")
        pen.goto([(1, "ann")])
        self.nothing(pen.undo)
        pen.goto([(1, "ann"), (2, "ann")])
        self.assertEqual(pen.undo(), [(1, "ann"), (2, "ann")])

    def test_redo_behind_another_turn(self):
        pen = Editor("ann")
        pen.write("ab")
        pen.undo()
        pen.write("cd")
        self.nothing(pen.redo)
        pen.undo()
        self.assertEqual(pen.redo(), [(2, "ann")])
        self.nothing(pen.redo)
        # The first one is taken back for ever.
        pen.goto(whole(pen.history()))
        self.assertEqual(pen.undo(), [(2, "ann")])
        self.nothing(pen.undo)

    def test_redo_behind_other_calls(self):
        def undone():
            made = Editor("ann", plain())
            made.keep("a")
            made.write("ab")
            made.undo()
            return made

        calls = [
            lambda pen: pen.goto([(1, "ann")]), lambda pen: pen.receive([("put", (9, "bob"), None, "x")]),
            lambda pen: pen.write("x"), lambda pen: pen.rub(1), lambda pen: pen.ordered(0, 0, [("front", "x")]),
            lambda pen: pen.replaced(["a"], ""), lambda pen: pen.pressed([("write", "x")]),
            lambda pen: (pen.goto([]), pen.back_to("a")),
        ]
        for call in calls:
            pen = undone()
            call(pen)
            self.nothing(pen.redo)
        calls = [
            lambda pen: pen.goto(pen.state()), lambda pen: pen.back_to("a"), lambda pen: pen.receive([FAR]),
            lambda pen: pen.receive(PLAIN), lambda pen: pen.to(0), lambda pen: (pen.to(0), pen.rub(9)),
            lambda pen: pen.pressed([("first",)]), lambda pen: pen.keep("b"), lambda pen: pen.mark("b"),
            lambda pen: pen.ordered(0, 0, []), lambda pen: pen.replaced(["q"], "x"), lambda pen: pen.home(),
            lambda pen: (pen.keep("b"), pen.copy().write("x")), lambda pen: pen.receive([]),
        ]
        for call in calls:
            pen = undone()
            call(pen)
            self.assertEqual(pen.redo(), [(4, "ann")])

    def test_names_of_states(self):
        pen = Editor("ann")
        pen.write("ab")
        pen.keep("a")
        pen.mark("a")
        pen.write("cd")
        pen.keep("b")
        self.assertIsNone(pen.back_to("a"))
        self.assertEqual((pen.text(), pen.at("a")), ("ab", 2))
        self.assertIsNone(pen.back_to("b"))
        self.assertEqual((pen.text(), pen.at("a")), ("abcd", 4))
        self.refuse(UnknownName, "c", pen.at, "c")
        self.refuse(UnknownName, "b", pen.at, "b")
        pen.mark("c")
        self.refuse(UnknownName, "c", pen.back_to, "c")

    def test_errors(self):
        pen = busy()
        before = all_told(pen)
        self.refuse_each(InvalidState, no_states() + [[(99, "ann")], [(2, "bob")]], pen.goto)
        for call in (pen.keep, pen.back_to, pen.mark, pen.at):
            self.refuse_each(InvalidName, NO_NAMES, call)
        for call in (pen.keep, pen.mark):
            self.refuse_each(TakenName, ["a", "b"], call)
        for call in (pen.back_to, pen.at):
            self.refuse_each(UnknownName, ["c", "ann", "first"], call)
        self.assertEqual(all_told(pen), before)


class ChangingTest(Case):
    """[123]"""

    def test_ordered(self):
        pen = Editor("ann")
        pen.write("abab\ncab\n\nab")
        pen.ordered(1, 3, [("replace", "ab", "xyz")])
        self.assertEqual(pen.text(), "abab\ncxyz\n\nxyz")
        # Behind the dropped ones, which stood last, hangs what comes.
        self.assertEqual(pen.journal()[2:], [
            ("drop", (3, "ann"), [(2, "ann", 0), (2, "ann", 1)]), ("put", (4, "ann"), (2, "ann", 1), "xyz"),
            ("drop", (5, "ann"), [(2, "ann", 4), (2, "ann", 5)]), ("put", (6, "ann"), (2, "ann", 5), "xyz"),
        ])

    def test_ordered_without_drops(self):
        pen = Editor("ann")
        pen.write("ab\nc")
        self.assertEqual(pen.ordered(0, 1, [("front", "x")]), [(2, "ann"), (3, "ann")])
        self.assertEqual(pen.journal()[1:], [("put", (2, "ann"), None, "x"), ("put", (3, "ann"), (1, "ann", 2), "x")])
        self.assertEqual(pen.ordered(1, 1, [("back", "y")]), [(4, "ann")])
        self.assertEqual(pen.journal()[3], ("put", (4, "ann"), (1, "ann", 3), "y"))
        self.assertEqual((pen.ordered(0, 1, []), pen.ordered(0, 0, [("replace", "q", "r")])), ([], []))
        self.assertEqual(pen.ordered(1, 1, [("first", 2), ("first", 2)]), [(5, "ann")])
        self.assertEqual(pen.text(), "xab\n")
        self.assertEqual(pen.ordered(1, 1, [("back", "abc"), ("back", "abc"), ("back", "a")]), [(6, "ann"), (7, "ann")])
        self.assertEqual(pen.text(), "xab\nabcabca")

    def test_what_is_in_common_stays(self):
        pen = Editor("ann")
        pen.write("aaa")
        # The beginning comes first, and of the rest the end.
        pen.ordered(0, 0, [("first", 1)])
        self.assertEqual(pen.journal()[-1], ("drop", (2, "ann"), [(1, "ann", 2)]))
        pen.ordered(0, 0, [("front", "aa")])
        self.assertEqual(pen.journal()[-1], ("put", (3, "ann"), (1, "ann", 1), "aa"))

    def test_replaced(self):
        pen = Editor("ann")
        pen.write("a b a")
        pen.receive([FAR])
        self.assertEqual(pen.replaced(["a"], "xy"), [(10 + k, "ann") for k in range(4)])
        self.assertEqual(pen.text(), "xy b xy")
        self.assertEqual(pen.journal()[1], ("put", (10, "ann"), (1, "ann", 4), "xy"))
        self.assertEqual(pen.undo(), [(10 + k, "ann") for k in range(4)])
        self.assertEqual(pen.replaced([" ", ("set", "ab")], ""), [(14, "ann"), (15, "ann")])
        self.assertEqual((pen.text(), pen.replaced(["q"], "r")), ("a", []))
        self.assertEqual(matches(["q"], pen.text()), [])

    def test_pressed(self):
        pen = Editor("ann")
        self.assertEqual(pen.pressed([("write", "abc"), ("left", 1)]), [(1, "ann")])
        self.assertEqual((pen.text(), pen.place()), ("abc", 2))
        pen.receive([FAR])
        self.assertEqual(pen.pressed([("rub", 2), ("write", "xy"), ("right", 9), ("write", "z")]),
                         [(10, "ann"), (11, "ann"), (12, "ann")])
        self.assertEqual((pen.text(), pen.place()), ("xycz", 4))
        self.assertEqual((pen.pressed([("first",)]), pen.place()), ([], 0))
        self.assertEqual((pen.pressed([("write", "q"), ("rub", 1)]), pen.text()), ([], "xycz"))
        self.assertEqual(pen.undo(), [(10, "ann"), (11, "ann"), (12, "ann")])

    def test_errors(self):
        pen = busy()
        many = pen.text().count("\n")
        before = all_told(pen)
        self.refuse_each(InvalidNumber, NO_NUMBERS + [-1, many + 1], lambda value: pen.ordered(value, None, None))
        self.refuse_each(InvalidNumber, NO_NUMBERS + [-1, many + 1], lambda value: pen.ordered(0, value, None))
        self.refuse_each(InvalidList, NO_LISTS, lambda value: pen.ordered(0, 0, value))
        self.refuse_each(InvalidItem, NO_ORDERS, lambda value: pen.ordered(0, 0, [("first", 1), value, None]))
        self.refuse_each(InvalidPattern, NO_PATTERNS, lambda value: pen.replaced(value, None))
        self.refuse_each(InvalidText, NO_TEXTS + ["abcdefg"], lambda value: pen.replaced(["a"], value))
        self.refuse_each(InvalidKeys, NO_LISTS + [[value] for value in NO_KEYS] + [[("left", 1)] * 13], pen.pressed)
        self.assertEqual(all_told(pen), before)
        lines = Editor("ann", History([("put", (1, "a"), None, "a\nb\nc")]))
        self.refuse(InvalidNumber, 0, lines.ordered, 1, 0, None)
        self.refuse(InvalidNumber, 3, lines.ordered, 3, 2, None)
        self.refuse(InvalidNumber, 3, lines.ordered, 2, 3, None)


class ReceivingTest(Case):
    """[124]"""

    def test_in_every_order(self):
        deeds = [("put", (1, "a"), None, "ab"), ("put", (2, "b"), (1, "a", 0), "x"), ("drop", (3, "a"), [(2, "b", 0)]),
                 ("put", (4, "c"), (2, "b", 0), "y")]
        given = History(deeds)
        for row in permutations(deeds):
            pen = Editor("zoe")
            came = []
            for at, deed in enumerate(row):
                there = [other[1] for other in row[:at + 1]]
                came += pen.receive([deed])
                full = [name for name in there if naive.rests_on(deeds)[name] <= set(there)]
                self.assertEqual(pen.state(), sorted(full))
                self.assertEqual(pen.waiting(), sorted(set(there) - set(full)))
            self.assertEqual(sorted(came), deed_names(given))
            self.assertEqual((pen.history(), pen.text()), (given, text_of(given, whole(given))))
            self.assertEqual([deed[1] for deed in pen.journal()], came)
            again = Editor("zoe")
            self.assertEqual(again.receive(list(row)), deed_names(given))
            self.assertEqual((again.journal(), again.waiting()), (given.deeds(), []))
            self.assertEqual(again.receive(list(row) * 2), [])

    def test_what_never_fits(self):
        pen = Editor("zoe", History([("put", (2, "a"), None, "ab"), ("drop", (3, "a"), [(2, "a", 0)])]))
        bad = [("put", (5, "b"), (2, "a", 2), "x"), ("drop", (1, "b"), [(2, "a", 1)]),
               ("put", (6, "b"), (3, "a", 0), "y"),
               ("put", (7, "b"), (5, "b", 0), "z"), ("put", (8, "b"), (9, "b", 0), "w")]
        self.assertEqual(pen.receive(bad), [])
        self.assertEqual(pen.waiting(), [(1, "b"), (5, "b"), (6, "b"), (7, "b"), (8, "b")])
        self.assertEqual(pen.receive([("put", (9, "b"), None, "q")]), [(9, "b")])
        self.assertEqual(pen.waiting(), [(1, "b"), (5, "b"), (6, "b"), (7, "b"), (8, "b")])
        self.assertEqual(pen.receive(bad), [])
        self.assertEqual(len(pen.history().deeds()), 3)

    def test_equal_numbers_never_fit(self):
        pen = Editor("zoe", History([("put", (2, "a"), None, "ab")]))
        self.assertEqual(pen.receive([("put", (2, "b"), (2, "a", 0), "x")]), [])
        self.assertEqual(pen.waiting(), [(2, "b")])

    def test_what_it_rests_on_comes_into_the_state(self):
        pen = Editor("ann")
        pen.write("ab")
        pen.write("cd")
        pen.goto([])
        self.assertEqual(pen.receive([("put", (5, "bob"), (1, "ann", 0), "x")]), [(5, "bob")])
        self.assertEqual((pen.state(), pen.text()), ([(1, "ann"), (5, "bob")], "axb"))
        # What is there already changes nothing, also where the state has it not.
        self.assertEqual(pen.receive(pen.journal()), [])
        self.assertEqual(pen.state(), [(1, "ann"), (5, "bob")])

    def test_what_waits_comes_with_what_it_rests_on(self):
        pen = Editor("ann")
        late = ("put", (3, "bob"), (2, "bob", 0), "y")
        self.assertEqual(pen.receive([late]), [])
        self.assertEqual(pen.receive([("drop", (4, "bob"), [(3, "bob", 0)])]), [])
        self.assertEqual((pen.receive([]), pen.waiting()), ([], [(3, "bob"), (4, "bob")]))
        self.assertEqual(pen.receive([late, ("put", (2, "bob"), None, "x")]), [(2, "bob"), (3, "bob"), (4, "bob")])
        self.assertEqual((pen.text(), pen.waiting()), ("x", []))

    def test_the_journal(self):
        pen = Editor("ann", plain())
        pen.write("q")
        pen.receive([("put", (3, "bob"), None, "y"), ("put", (1, "bob"), None, "x"), ("put", (2, "a"), None, "z")])
        pen.undo()
        pen.rub(1)
        self.assertEqual([deed[1] for deed in pen.journal()],
                         [(1, "ann"), (2, "bob"), (3, "ann"), (4, "ann"), (1, "bob"), (2, "a"), (3, "bob"), (5, "ann")])
        # Of the journal an editor of the same comes.
        self.assertEqual(Editor("cy", History(pen.journal())).history(), pen.history())

    def test_marks(self):
        pen = Editor("ann")
        pen.mark("end")
        pen.write("abc")
        pen.to(1)
        pen.mark("b")
        pen.to(3)
        pen.to(0)
        self.assertEqual((pen.at("b"), pen.at("end")), (1, 3))
        pen.write("xx")
        self.assertEqual((pen.at("b"), pen.at("end"), pen.place()), (3, 5, 2))
        pen.to(4)
        pen.rub(2)
        self.assertEqual((pen.text(), pen.at("b")), ("xxc", 2))
        pen.undo()
        self.assertEqual(pen.at("b"), 3)
        pen.goto([])
        self.assertEqual((pen.at("b"), pen.at("end")), (0, 0))

    def test_copies_go_apart(self):
        pen = busy()
        twin = pen.copy()
        before = all_told(pen)
        self.assertEqual(all_told(twin), before)
        for call in (lambda: twin.redo(), lambda: twin.write("abc"), lambda: twin.undo(), lambda: twin.keep("c"),
                     lambda: twin.mark("c"), lambda: twin.to(0), lambda: twin.back_to("a"), lambda: twin.goto([]),
                     lambda: twin.receive([("put", (8, "zoe"), None, "z")]), lambda: twin.rub(1)):
            call()
            self.assertEqual(all_told(pen), before)
        self.refuse(UnknownName, "c", pen.at, "c")
        self.refuse(UnknownName, "c", pen.back_to, "c")
        # And the other way round.
        after = all_told(twin)
        pen.redo()
        pen.write("q")
        pen.undo()
        pen.keep("d")
        pen.receive([("put", (77, "zoe"), None, "z")])
        self.assertEqual(all_told(twin), after)

    def test_errors(self):
        pen = busy()
        before = all_told(pen)
        self.refuse_each(InvalidList, NO_LISTS, pen.receive)
        new = ("put", (50, "zoe"), None, "z")
        self.refuse_each(InvalidItem, NO_DEEDS, lambda value: pen.receive([new, value, None]))
        others = [("put", (1, "ann"), None, "ax"), ("drop", (1, "ann"), [(2, "bob", 0)]),
                  ("put", (9, "zoe"), None, "z"),
                  ("put", (9, "zoe"), (8, "zoe", 1), "z"), ("put", (50, "zoe"), None, "zz")]
        self.refuse_each(InvalidItem, others, lambda value: pen.receive([new, new, value, None]))
        self.assertEqual(all_told(pen), before)

    def test_lists_stay(self):
        signs = [(1, "ann", 0)]
        drop = ("drop", (5, "bob"), signs)
        late = ("drop", (9, "bob"), [(8, "bob", 0)])
        deeds = [drop, late]
        pen = Editor("ann", plain())
        pen.receive(deeds)
        signs.append((1, "ann", 1))
        late[2].append((9, "x", 0))
        deeds.clear()
        self.assertEqual((pen.text(), pen.journal()[-1]), ("x", ("drop", (5, "bob"), [(1, "ann", 0)])))
        pen.journal()[-1][2].clear()
        pen.journal().clear()
        pen.state().clear()
        pen.waiting().clear()
        self.assertEqual((pen.text(), pen.journal()[-1]), ("x", ("drop", (5, "bob"), [(1, "ann", 0)])))
        self.assertEqual(pen.receive([("put", (8, "bob"), None, "y")]), [(8, "bob"), (9, "bob")])
        state = [(1, "ann")]
        pen.goto(state)
        state.clear()
        self.assertEqual(pen.text(), "ab")
        pen.keep("a")
        pen.write("q").clear()
        self.assertEqual(len(pen.rub(1)), 1)
        pen.rub(1).clear()
        pen.undo().clear()
        self.assertEqual(len(pen.redo()), 1)
        pen.undo()
        pen.redo().clear()
        self.assertEqual(len(pen.undo()), 1)
        pen.state().append(1)
        pen.back_to("a")
        self.assertEqual(pen.text(), "ab")


if __name__ == "__main__":
    unittest.main()
