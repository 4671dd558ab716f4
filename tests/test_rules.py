"""[2]: what holds for each function and method: the order of errors, arguments that stay, lists that are new."""

import unittest
from copy import deepcopy
from importlib import import_module

from everrow import errors
from everrow.changes import Change
from everrow.editor import Editor
from everrow.hands import Net
from everrow.history import History
from everrow.rights import Desk
from everrow.trees import Tree
from tests.cases import Case
from tests.makers import PLAIN

ANN, BOB, DROP = (1, "ann"), (2, "bob"), (3, "ann")
A, B, X = (1, "ann", 0), (1, "ann", 1), (2, "bob", 0)
TOP = [ANN, BOB, DROP]
ROWS = [("top", None, []), ("one", "top", [ANN]), ("two", "one", [ANN, BOB]), ("three", "one", [ANN, DROP])]
BEHIND, AHEAD, FIRST, LAST = ("behind", A), ("ahead", B), ("first",), ("last",)


def net():
    made = Net(["ann", "bob", "cy"])
    made.put("ann", None, "ab")
    made.put("ann", A, "c")
    made.drop("ann", [A, B])
    made.send("ann", "bob", [(2, "ann")])
    return made


def desk():
    """A desk with bars, at which something can be undone."""
    made = Desk(history())
    made.bar("ann", (FIRST, AHEAD))
    made.bar("bob", (BEHIND, LAST))
    made.take(("put", (7, "zoe"), A, "q"))
    return made


def editor():
    """An editor that has some of all, in which something can be undone and redone."""
    made = Editor("ann", history())
    made.keep("one")
    made.mark("two")
    made.write("cd\ne")
    made.to(3)
    made.write("gone")
    made.undo()
    made.receive([("drop", (9, "bob"), [(8, "bob", 0)])])
    return made


def history():
    return History(PLAIN)


def tree():
    return Tree(history(), ROWS)


# For each argument: its name, a way to make it, and the error for what it cannot be (None if it may be any value).
HISTORY = ("history", history, "InvalidHistory")
TREE = ("tree", tree, "InvalidTree")


def state(name, *worth):
    return (name, lambda: list(worth), "InvalidState")


def plain(name, worth, error):
    return (name, lambda: deepcopy(worth), error)


def change(name, size, row):
    return (name, lambda: Change(size, list(row)), "InvalidChange")


DEED, SIGN = plain("name", ANN, "UnknownDeed"), plain("sign", B, "UnknownSign")
ONE, OTHER = state("one", ANN), state("other", ANN, BOB)
LOW, HIGH = state("low"), state("high", *TOP)
NODES = [plain("one", "two", "UnknownName"), plain("other", "three", "UnknownName")]
LINE = plain("line", [A, X], "InvalidLine")
MARK = plain("mark", BEHIND, "InvalidMark")
NUMBER = plain("number", 1, "InvalidNumber")
HAND = plain("hand", "ann", "UnknownName")
FOLDS = plain("folds", [(BEHIND, AHEAD), (FIRST, LAST)], "InvalidList")
SELECTION = plain("selection", (BEHIND, AHEAD), "InvalidMark")
CHANGE = change("change", 2, [0, "x"])
WORDS = [plain("text", "abcb", "InvalidText"), plain("other", "bab", "InvalidText")]
TEXT = plain("text", "aab b", "InvalidText")
KEY_LISTS = [[("left", 1), ("write", "x")], [("write", "x"), ("left", 1)]]
KEYS = [plain("one", KEY_LISTS[0], "InvalidKeys"), plain("other", KEY_LISTS[1], "InvalidKeys")]
PRESSING = [plain("text", "ab", "InvalidText"), plain("at", 1, "InvalidNumber"),
            plain("keys", KEY_LISTS[0] + [("first",)], "InvalidKeys")]
PATTERN = plain("pattern", ["a", ("gap",), ("set", "abx")], "InvalidPattern")
PATTERNS = [plain("one", ["a", ("gap",), "b"], "InvalidPattern"),
            plain("other", [("set", "ab"), "b"], "InvalidPattern")]
LENGTH = plain("length", 3, "InvalidNumber")
TURNING = [plain("table", [("a", "ab"), ("b", "a")], "InvalidTable"), TEXT, plain("rounds", 4, "InvalidNumber")]
ORDERS = plain("orders", [("letters", [("a", "b"), ("c", "a")]), ("replace", "bb", "b")], "InvalidList")
ORDER_LISTS = [plain("one", ORDERS[1](), "InvalidList"), plain("other", [("last", 1)], "InvalidList")]
SCREEN, WIDTH = plain("text", "ab cd\ne f\n\ng", "InvalidText"), plain("width", 3, "InvalidNumber")
ORDER = plain("order", [ANN, DROP, BOB], "InvalidList")
SIZE, SURE = plain("size", 5, "InvalidNumber"), plain("sure", [0, 1, 6], "InvalidList")
SHORTS = plain("shorts", [("a", "x"), ("ab", "xy"), ("b", "y"), ("ba", "yy")], "InvalidList")
ROW_OF_SHORTS = plain("row", [1, 0, 3], "InvalidList")
BOOK, MOST = plain("book", ["cat", "cot", "dog"], "InvalidList"), plain("most", 2, "InvalidNumber")
STRING = plain("string", "cet", "InvalidText")
BOOKS = [plain("one", ["ab", "b"], "InvalidList"), plain("other", ["abc"], "InvalidList")]
BARS = [("ann", (BEHIND, LAST)), ("bob", (FIRST, AHEAD))]
BAR_LISTS = [plain("one", BARS, "InvalidList"), plain("other", BARS[:1], "InvalidList")]
LAYOUT = plain("layout", ("across", [(2, "a"), (1, ("down", [(1, "b"), (1, "c")]))]), "InvalidLayout")
LAYOUTS = [plain("one", ("across", [(2, "a"), (1, "b")]), "InvalidLayout"),
           plain("other", ("across", [(3, "a"), (2, "b")]), "InvalidLayout")]
PLACES = plain("places", [8, 0, 3], "InvalidList")
CURSORS = plain("cursors", [0, 2], "InvalidList")
NUMBER_OF_CURSORS = plain("number", 2, "InvalidNumber")
CHANGES = [change("one", 3, [0, "x", 1, 2]), change("other", 3, [0, 1, "y"])]
OUTLINES = [plain("one", "a\nb\nc", "InvalidText"), plain("other", "a\n b\n  c", "InvalidText")]
OUTLINE = plain("outline", "a\n b\nc", "InvalidText")
SHIFTS = plain("shifts", [("in", 2), ("out", 1)], "InvalidList")
BRACKETS = plain("brackets", [("a", "b"), ("x", "y")], "InvalidList")
CALLS = [
    ("history", "History", [plain("deeds", PLAIN, "InvalidList")]),
    ("history", "deed_names", [HISTORY]),
    ("history", "deed_named", [HISTORY, plain("name", DROP, "UnknownDeed")]),
    ("history", "rests", [HISTORY, plain("name", DROP, "UnknownDeed")]),
    ("history", "bears", [HISTORY, DEED]),
    ("history", "ever_row", [HISTORY]),
    ("history", "sign_of", [HISTORY, SIGN]),
    ("history", "is_state", [HISTORY, plain("value", [ANN], None)]),
    ("history", "whole", [HISTORY]),
    ("history", "closure", [HISTORY, plain("listed", [DROP, BOB], "InvalidList")]),
    ("history", "heart", [HISTORY, plain("listed", [DROP, ANN], "InvalidList")]),
    ("history", "seen", [HISTORY, state("state", *TOP)]),
    ("history", "text_of", [HISTORY, state("state", *TOP)]),
    ("history", "ahead_of", [HISTORY, state("state", *TOP), SIGN]),
    ("states", "out", [HISTORY, state("state", *TOP), plain("name", BOB, "UnknownDeed")]),
    ("states", "into", [HISTORY, state("state", ANN), plain("name", BOB, "UnknownDeed")]),
    ("states", "meet", [HISTORY, ONE, OTHER]),
    ("states", "join", [HISTORY, ONE, OTHER]),
    ("states", "way", [HISTORY, ONE, OTHER]),
    ("states", "is_way", [HISTORY, ONE, OTHER, plain("value", [("in", BOB)], None)]),
    ("states", "how_many", [HISTORY, LOW, HIGH]),
    ("states", "state_at", [HISTORY, LOW, HIGH, NUMBER]),
    ("states", "number_of", [HISTORY, LOW, HIGH, state("state", ANN)]),
    ("states", "texts", [HISTORY]),
    ("states", "showing", [HISTORY, plain("text", "ab", "InvalidText")]),
    ("states", "parted", [HISTORY, ONE, OTHER]),
    ("states", "parted", [HISTORY, ONE, state("other", ANN)]),
    ("hands", "Net", [plain("hands", ["ann", "bob"], "InvalidList")]),
    ("hands", "clashes", [HISTORY, state("one", ANN, BOB), state("other", ANN, DROP)]),
    ("trees", "Tree", [HISTORY, plain("rows", ROWS, "InvalidList")]),
    ("trees", "span", [HISTORY, ONE, OTHER]),
    ("trees", "state_of", [TREE, plain("name", "two", "UnknownName")]),
    ("trees", "text_at", [TREE, plain("name", "two", "UnknownName")]),
    ("trees", "way_of", [TREE] + NODES),
    ("trees", "cost", [TREE] + NODES),
    ("trees", "bent", [TREE]),
    ("trees", "kept", [TREE, NUMBER]),
    ("trees", "unserved", [TREE, NUMBER]),
    ("trees", "doors", [TREE, plain("one", "top", "UnknownName"), plain("text", "a", "InvalidText")]),
    ("trees", "graft", [HISTORY, state("base", ANN), state("tip", ANN, BOB), state("onto", ANN, DROP)]),
    ("blends", "sign_span", [HISTORY, ONE, OTHER]),
    ("blends", "sign_cost", [TREE] + NODES),
    ("blends", "kept_by_signs", [TREE, NUMBER]),
    ("blends", "unserved_by_signs", [TREE, NUMBER]),
    ("blends", "blend", [HISTORY, state("base", ANN), state("one", ANN, BOB), state("other", ANN, DROP)]),
    ("blends", "unblended", [HISTORY, state("base", ANN), state("one"), state("other", ANN, DROP)]),
    ("blends", "common", [TREE] + NODES),
    ("blends", "blended", [TREE] + NODES),
    ("blends", "turns", [TREE, DEED]),
    ("blends", "holding", [TREE, DEED]),
    ("seen", "stands", [HISTORY, state("state", *TOP), LINE]),
    ("seen", "best", [HISTORY, LINE]),
    ("seen", "only", [HISTORY, LINE]),
    ("seen", "read", [HISTORY, plain("word", "ax", "InvalidText")]),
    ("seen", "whenever", [HISTORY, plain("one", A, "UnknownSign"), plain("other", B, "UnknownSign")]),
    ("seen", "trimmed", [HISTORY, plain("states", [TOP, [ANN]], "InvalidList")]),
    ("lines", "best_between", [HISTORY, LOW, HIGH, LINE]),
    ("lines", "best_both", [HISTORY, plain("one", [A], "InvalidLine"), plain("other", [X], "InvalidLine")]),
    ("lines", "fewest_for", [HISTORY, LINE]),
    ("lines", "words_shown", [HISTORY, plain("size", 2, "InvalidNumber")]),
    ("marks", "place_of", [HISTORY, state("state", *TOP), MARK]),
    ("marks", "is_lost", [HISTORY, state("state", *TOP), MARK]),
    ("marks", "marks_in_order", [HISTORY, plain("marks", [LAST, BEHIND, FIRST, BEHIND], "InvalidList")]),
    ("marks", "moves", [HISTORY, ONE, OTHER, plain("marks", [LAST, BEHIND], "InvalidList")]),
    ("marks", "meeting", [HISTORY, plain("one", BEHIND, "InvalidMark"), plain("other", LAST, "InvalidMark")]),
    ("marks", "apart", [HISTORY, plain("one", BEHIND, "InvalidMark"), plain("other", LAST, "InvalidMark")]),
    ("marks", "strays", [HISTORY, plain("states", [[ANN], TOP, [ANN]], "InvalidList"), MARK]),
    ("marks", "picked", [HISTORY, state("state", *TOP), plain("selection", (BEHIND, AHEAD), "InvalidMark")]),
    ("marks", "crossing", [HISTORY, FOLDS]),
    ("marks", "folded", [HISTORY, state("state", *TOP), FOLDS]),
    ("spans", "filled", [HISTORY, state("state", *TOP), SELECTION]),
    ("spans", "emptied", [HISTORY, state("state", ANN, BOB), SELECTION]),
    ("spans", "places_between", [HISTORY, LOW, HIGH, MARK]),
    ("spans", "swaps", [HISTORY, plain("states", [[ANN], TOP], "InvalidList"),
                        plain("marks", [LAST, BEHIND, AHEAD], "InvalidList")]),
    ("changes", "Change", [plain("size", 2, "InvalidNumber"), plain("row", [0, "x"], "InvalidList")]),
    ("changes", "done", [CHANGE, plain("text", "ab", "InvalidText")]),
    ("changes", "joined", [change("one", 2, [0, "x"]), change("other", 2, [1])]),
    ("changes", "undone", [CHANGE, plain("text", "ab", "InvalidText")]),
    ("changes", "parting", [change("one", 2, [0, "x"]), change("other", 2, [1])]),
    ("changes", "least_change", WORDS),
    ("changes", "shelves", WORDS),
    ("changes", "between", [HISTORY, ONE, OTHER]),
    ("changes", "deeds_for", [HISTORY, state("state", ANN), plain("hand", "cy", "InvalidName"), CHANGE]),
    ("keys", "pressed", PRESSING),
    ("keys", "effect", [plain("size", 2, "InvalidNumber")] + PRESSING[1:]),
    ("keys", "alike", KEYS),
    ("keys", "unlike", KEYS),
    ("keys", "commute", KEYS),
    ("keys", "idle", PRESSING[2:]),
    ("keys", "needless", PRESSING[2:]),
    ("keys", "outcome", PRESSING),
    ("keys", "often", PRESSING + [plain("times", 9, "InvalidNumber")]),
    ("patterns", "fits", [PATTERN, TEXT]),
    ("patterns", "matches", [PATTERN, TEXT]),
    ("patterns", "next_match", [PATTERN, TEXT, plain("place", 1, "InvalidNumber")]),
    ("patterns", "struck", [PATTERN, TEXT]),
    ("patterns", "same_fits", PATTERNS),
    ("patterns", "fits_less", PATTERNS),
    ("patterns", "parting_text", PATTERNS),
    ("patterns", "common_text", PATTERNS),
    ("patterns", "found_signs", [HISTORY, state("state", ANN, BOB), PATTERN]),
    ("patterns", "replaced", [HISTORY, state("state", ANN, BOB), plain("hand", "cy", "InvalidName"), PATTERN,
                              plain("text", "yz", "InvalidText")]),
    ("patterns", "settle", [plain("rules", [("a", "b"), ("b", "")], "InvalidRules"), TEXT,
                            plain("most", 9, "InvalidNumber")]),
    ("fitting", "how_many_fit", [PATTERN, LENGTH]),
    ("fitting", "how_many_both", PATTERNS + [LENGTH]),
    ("fitting", "how_many_part", PATTERNS + [LENGTH]),
    ("fitting", "fit_at", [PATTERN, LENGTH, NUMBER]),
    ("fitting", "fit_number", [PATTERN, TEXT]),
    ("tables", "turned", TURNING[:2]),
    ("tables", "length_after", TURNING),
    ("tables", "count_after", TURNING + [plain("sign", "b", "InvalidText")]),
    ("tables", "sign_after", TURNING + [plain("place", 3, "InvalidNumber")]),
    ("tables", "fate", TURNING[:2]),
    ("tables", "worst_sign", TURNING[:1]),
    ("tables", "present", TURNING),
    ("tables", "presence", TURNING[:2]),
    ("orders", "played", [ORDERS, plain("line", "aab", "InvalidText")]),
    ("orders", "unlike_line", ORDER_LISTS),
    ("orders", "alike_lines", ORDER_LISTS),
    ("orders", "commute_lines", ORDER_LISTS),
    ("orders", "idle_lines", [ORDERS]),
    ("orders", "settled", [ORDERS]),
    ("orders", "undoes", ORDER_LISTS),
    ("orders", "source", [ORDERS, plain("line", "ba", "InvalidText")]),
    ("orders", "shows", [ORDERS, plain("word", "ba", "InvalidText")]),
    ("display", "pieces", [plain("line", "ab cd e", "InvalidText"), WIDTH]),
    ("display", "screen", [SCREEN, WIDTH, plain("folds", [(0, 2), (1, 2)], "InvalidList")]),
    ("display", "spot", [SCREEN, WIDTH, plain("place", 3, "InvalidNumber")]),
    ("display", "place_at", [SCREEN, WIDTH, plain("row", 1, "InvalidNumber"), plain("column", 1, "InvalidNumber")]),
    ("display", "stepped", [SCREEN, WIDTH, plain("place", 3, "InvalidNumber"), plain("rows", -1, "InvalidNumber"),
                            plain("column", 1, "InvalidNumber")]),
    ("display", "least_width", [SCREEN, plain("height", 4, "InvalidNumber")]),
    ("display", "widths", [SCREEN]),
    ("display", "smooth", [plain("line", "ab cd e", "InvalidText"), WIDTH]),
    ("display", "scrolled", [plain("rows", 9, "InvalidNumber"), plain("top", 4, "InvalidNumber"),
                             plain("height", 3, "InvalidNumber"), plain("row", 1, "InvalidNumber")]),
    ("display", "ends_alike", [plain("one", "ab cd", "InvalidText"), plain("other", "cd", "InvalidText"), WIDTH]),
    ("journal", "line_of", [plain("deed", PLAIN[2], "InvalidItem")]),
    ("journal", "deed_of", [plain("line", "14:put 1 ann - ab;74", "InvalidText")]),
    ("journal", "how_many_orders", [HISTORY]),
    ("journal", "order_at", [HISTORY, NUMBER]),
    ("journal", "order_number", [HISTORY, ORDER]),
    ("journal", "journal", [HISTORY, ORDER]),
    ("journal", "recovered", [plain("text", "14:put 1 ann - ab;74\nx", "InvalidText")]),
    ("journal", "crashes", [HISTORY, ORDER, plain("sure", 1, "InvalidNumber")]),
    ("journal", "left_state", [HISTORY, ORDER, SIZE, plain("lost", [3, 4], "InvalidList")]),
    ("journal", "always", [HISTORY, ORDER, SIZE, SURE]),
    ("journal", "possible", [HISTORY, ORDER, SIZE, SURE, state("state", ANN)]),
    ("journal", "fewest_lost", [HISTORY, ORDER, SIZE, SURE, state("state", ANN)]),
    ("journal", "next_apart", [HISTORY, ORDER, SIZE, SURE, state("state", ANN)]),
    ("texts", "write_history", [HISTORY]),
    ("texts", "read_history", [plain("text", "14:put 1 ann - ab;74\n", "InvalidText")]),
    ("texts", "wrong_line", [plain("text", "14:put 1 ann - ab;74\nx", "InvalidText")]),
    ("editor", "Editor", [plain("hand", "ann", "InvalidName"), HISTORY]),
    ("cursors", "pressed_at", [plain("text", "ab", "InvalidText"), CURSORS, PRESSING[2]]),
    ("cursors", "effect_at", [plain("size", 2, "InvalidNumber"), CURSORS, PRESSING[2]]),
    ("cursors", "alike_at", KEYS + [NUMBER_OF_CURSORS]),
    ("cursors", "unlike_at", KEYS + [NUMBER_OF_CURSORS]),
    ("cursors", "meet_within", [plain("keys", [("rub", 2), ("write", "x")], "InvalidKeys")]),
    ("three", "rubbing", CHANGES),
    ("three", "rubbing", [CHANGES[0], change("other", 3, ["z", 2])]),
    ("three", "both", CHANGES),
    ("three", "over", CHANGES),
    ("three", "merges", [plain("elder", "a\nb", "InvalidText"), plain("one", "a", "InvalidText"),
                         plain("other", "a\nb\nc", "InvalidText")]),
    ("outlines", "is_outline", [plain("value", "a\n b", None)]),
    ("outlines", "shifted", [OUTLINE, SHIFTS]),
    ("outlines", "shift_change", [OUTLINE, plain("shift", ("in", 2), "InvalidItem")]),
    ("outlines", "deeper", OUTLINES),
    ("outlines", "fewest_in", OUTLINES),
    ("outlines", "flatter", OUTLINES),
    ("outlines", "steeper", OUTLINES),
    ("outlines", "how_many_outlines", OUTLINES),
    ("outlines", "outline_at", OUTLINES + [NUMBER]),
    ("outlines", "unlike_outline", [plain("one", [("in", 1)], "InvalidList"),
                                    plain("other", [("in", 2)], "InvalidList")]),
    ("brackets", "closes", [BRACKETS, TEXT]),
    ("brackets", "open_state", [HISTORY, BRACKETS]),
    ("brackets", "closing", [HISTORY, BRACKETS, state("state", *TOP)]),
    ("brackets", "unfair", [HISTORY, BRACKETS]),
    ("brackets", "opened", [BRACKETS, plain("table", [("a", "ab"), ("c", "")], "InvalidTable")]),
    ("brackets", "skeleton", [OUTLINE]),
    ("brackets", "outline_of", [plain("text", "aabbab", "InvalidText")]),
    ("words", "terms", [TEXT]),
    ("words", "staying", [plain("text", "ab c", "InvalidText"), change("change", 4, ["x", " ", 0, 1, 2, 3])]),
    ("words", "keeping", [plain("text", "to be or to", "InvalidText"), plain("other", "or to be", "InvalidText")]),
    ("words", "typed", [SHORTS, ROW_OF_SHORTS]),
    ("words", "meant", [SHORTS, ROW_OF_SHORTS]),
    ("words", "two_rows", [SHORTS]),
    ("words", "two_meanings", [SHORTS]),
    ("spelling", "slips", [plain("one", "ca", "InvalidText"), plain("other", "abc", "InvalidText")]),
    ("spelling", "nearest", [BOOK, STRING]),
    ("spelling", "mended", [BOOK, STRING, MOST]),
    ("spelling", "mending", [BOOK, plain("text", "a cta dgo", "InvalidText"), MOST]),
    ("spelling", "parting_string", BOOKS + [MOST]),
    ("spelling", "between_two", [BOOK, MOST]),
    ("authors", "by_hands", [HISTORY, state("state", ANN, BOB)]),
    ("authors", "without", [HISTORY, state("state", *TOP), plain("hand", "bob", "InvalidName")]),
    ("authors", "alone", [HISTORY, plain("hands", ["zoe", "ann"], "InvalidList")]),
    ("authors", "brought", [HISTORY, plain("hands", ["bob", "ann"], "InvalidList"),
                            plain("text", "ax", "InvalidText")]),
    ("authors", "fewest_hands", [HISTORY, plain("text", "ax", "InvalidText")]),
    ("authors", "turned_by", [HISTORY, plain("hand", "ann", "InvalidName"), SIGN]),
    ("rights", "breaks", [HISTORY, plain("bars", BARS, "InvalidList")]),
    ("rights", "granted", [HISTORY, plain("bars", BARS[1:], "InvalidList")]),
    ("rights", "is_granted", [HISTORY, plain("bars", BARS, "InvalidList"), state("state", ANN)]),
    ("rights", "same_bars", [HISTORY] + BAR_LISTS),
    ("rights", "parting_deed", [HISTORY] + BAR_LISTS),
    ("rights", "parting_deed", [HISTORY, plain("one", [], "InvalidList"),
                                plain("other", [("ann", (BEHIND, ("behind", X)))], "InvalidList")]),
    ("rights", "fewest_bars", [HISTORY, plain("bars", BARS, "InvalidList")]),
    ("rights", "Desk", [HISTORY]),
    ("windows", "rooms", [LAYOUT, plain("width", 7, "InvalidNumber"), plain("height", 5, "InvalidNumber")]),
    ("windows", "least_room", [LAYOUT, plain("wishes", [("c", 2, 2), ("a", 0, 9)], "InvalidList")]),
    ("windows", "unlike_size", LAYOUTS),
    ("windows", "settling", [SCREEN, WIDTH, plain("other", 5, "InvalidNumber"), plain("row", 2, "InvalidNumber")]),
    ("windows", "covering", [SCREEN, WIDTH, plain("height", 2, "InvalidNumber"), PLACES]),
    ("windows", "scattered", [SCREEN, WIDTH, plain("height", 2, "InvalidNumber"), PLACES]),
]
METHODS = [
    (history, "deeds", []),
    (net, "put", [HAND, plain("anchor", B, "UnknownSign"), plain("text", "x", "InvalidText")]),
    (net, "drop", [HAND, plain("signs", [A, (2, "ann", 0)], "InvalidList")]),
    (net, "send", [HAND, plain("other", "bob", "UnknownName"), plain("listed", [(3, "ann"), ANN], "InvalidList")]),
    (net, "heard", [HAND]),
    (net, "waiting", [plain("hand", "bob", "UnknownName")]),
    (net, "history", [HAND]),
    (net, "text", [HAND]),
    (net, "lacks", [HAND, plain("other", "bob", "UnknownName")]),
    (net, "lacks", [plain("hand", "cy", "UnknownName"), plain("other", "ann", "UnknownName")]),
    (net, "rounds", []),
    (tree, "history", []),
    (tree, "rows", []),
    (CHANGE[1], "row", []),
    (editor, "history", []),
    (editor, "state", []),
    (editor, "text", []),
    (editor, "place", []),
    (editor, "write", [plain("text", "abcdefg", "InvalidText")]),
    (editor, "rub", [NUMBER]),
    (editor, "to", [plain("place", 1, "InvalidNumber")]),
    (editor, "home", []),
    (editor, "end", []),
    (editor, "up", [WIDTH]),
    (editor, "down", [WIDTH]),
    (editor, "undo", []),
    (editor, "redo", []),
    (editor, "goto", [state("state", ANN, BOB)]),
    (editor, "keep", [plain("name", "two", "InvalidName")]),
    (editor, "back_to", [plain("name", "one", "InvalidName")]),
    (editor, "ordered", [plain("first", 0, "InvalidNumber"), plain("last", 1, "InvalidNumber"), ORDERS]),
    (editor, "replaced", [PATTERN, plain("text", "yz", "InvalidText")]),
    (editor, "pressed", PRESSING[2:]),
    (editor, "receive", [plain("deeds", [("put", (8, "bob"), None, "q"), PLAIN[2]], "InvalidList")]),
    (editor, "waiting", []),
    (editor, "mark", [plain("name", "one", "InvalidName")]),
    (editor, "at", [plain("name", "two", "InvalidName")]),
    (editor, "journal", []),
    (editor, "copy", []),
    (desk, "history", []),
    (desk, "bars", []),
    (desk, "bar", [plain("hand", "ann", "InvalidName"), plain("selection", (BEHIND, AHEAD), "InvalidMark")]),
    (desk, "lift", [NUMBER]),
    (desk, "take", [plain("deed", ("drop", (8, "zoe"), [A, X]), "InvalidItem")]),
    (desk, "back", []),
]
# What they tell goes by what was done, so that a second call of one object can tell something else.
DOING = {"put", "drop", "write", "rub", "to", "undo", "redo", "keep", "ordered", "replaced", "pressed", "receive",
         "mark", "up", "down", "bar", "lift", "take", "back"}


def shown(value):
    """A value with its objects taken apart, so that two of them can be held against each other."""
    if isinstance(value, History):
        return ("History", value.deeds())
    if isinstance(value, Tree):
        return ("Tree", value.history().deeds(), value.rows())
    if isinstance(value, Change):
        return ("Change", value.size, value.row())
    if isinstance(value, Net):
        return ("Net", [(value.heard(hand), value.waiting(hand)) for hand in ("ann", "bob")])
    if isinstance(value, Editor):
        return ("Editor", value.journal(), value.state(), value.place(), value.waiting())
    if isinstance(value, Desk):
        return ("Desk", value.history().deeds(), value.bars())
    if isinstance(value, (list, tuple)):
        return type(value)(shown(item) for item in value)
    return value


def lists_in(value):
    """All list objects within a value."""
    found = [value] if isinstance(value, list) else []
    if isinstance(value, (list, tuple)):
        for item in value:
            found += lists_in(item)
    return found


def kinds_in(value):
    """The kinds of all values within a value."""
    found = {type(value)}
    if isinstance(value, (list, tuple)):
        for item in value:
            found |= kinds_in(item)
    return found


class RulesTest(Case):

    def all_calls(self):
        """For each call: a name to show, a way to get what is called, and the arguments."""
        for module, word, arguments in CALLS:
            made = getattr(import_module(f"everrow.{module}"), word)
            yield f"{module}.{word}", (lambda made=made: made), arguments
        for owner, word, arguments in METHODS:
            yield word, (lambda owner=owner, word=word: getattr(owner(), word)), arguments

    def test_arguments_stay_and_results_are_new(self):
        for name, find, arguments in self.all_calls():
            with self.subTest(name):
                told = [make() for _, make, _ in arguments]
                before = shown(told)
                result = find()(*told)
                self.assertEqual(shown(told), before)
                found = lists_in(result)
                self.assertEqual(len({id(one) for one in found}), len(found))
                self.assertFalse({id(one) for one in found} & {id(one) for one in lists_in(told)})
                allowed = {type(None), bool, str, int, tuple, list, History, Tree, Net, Change, Editor, Desk}
                self.assertTrue(kinds_in(result) <= allowed)

    def test_by_name_and_again(self):
        for name, find, arguments in self.all_calls():
            with self.subTest(name):
                result = find()(*[make() for _, make, _ in arguments])
                named = find()(**{word: make() for word, make, _ in arguments})
                self.assertEqual(shown(named), shown(result))
                self.assertEqual(kinds_in(named), kinds_in(result))

    def test_results_belong_to_the_caller(self):
        for name, find, arguments in self.all_calls():
            with self.subTest(name):
                told = [make() for _, make, _ in arguments]
                call = find()
                if call.__name__ in DOING and hasattr(call, "__self__"):
                    continue
                result = call(*told)
                before = deepcopy(shown(result))
                for one in lists_in(result):
                    one.append("changed")
                self.assertEqual(shown(call(*told)), before)

    def test_the_earliest_error_comes_first(self):
        for name, find, arguments in self.all_calls():
            wrong = [at for at, (_, _, error) in enumerate(arguments) if error]
            for mask in range(1, 1 << len(wrong)):
                chosen = [at for k, at in enumerate(wrong) if mask >> k & 1]
                told = [make() for _, make, _ in arguments]
                for at in chosen:
                    told[at] = {"wrong": at}
                error = getattr(errors, arguments[chosen[0]][2])
                with self.subTest(name, chosen=chosen):
                    self.refuse(error, told[chosen[0]], find(), *told)

    def test_any_value_is_taken_or_refused_with_an_own_error(self):
        deep = []
        for _ in range(29):
            deep = [deep]
        values = [None, True, 0, "a", (), [], {}, {"a": [1]}, deep, history(), tree(), net(), [history()], (tree(),),
                  CHANGE[1](), [CHANGE[1]()]]
        for name, find, arguments in self.all_calls():
            for at, (_, _, error) in enumerate(arguments):
                for value in values:
                    told = [make() for _, make, _ in arguments]
                    told[at] = value
                    with self.subTest(name, value=value):
                        try:
                            result = find()(*told)
                            self.assertTrue(error is not None or result in (True, False))
                        except errors.RowError:
                            self.assertIsNotNone(error)

    def test_objects_equal_nothing_else(self):
        objects = [history(), tree(), CHANGE[1]()]
        for at, one in enumerate(objects):
            others = objects[:at] + objects[at + 1:]
            for value in [None, True, 1, "a", [], (), {}, PLAIN, ROWS, net(), errors.RowError(), *others]:
                self.assertFalse(one == value)
                self.assertTrue(one != value)


if __name__ == "__main__":
    unittest.main()
