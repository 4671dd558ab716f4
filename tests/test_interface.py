"""[1] and the interface: each name stands in its module, is defined there, and takes its arguments as written."""

import inspect
import unittest
from importlib import import_module

ERRORS = [
    "RowError", "InvalidList", "InvalidItem", "InvalidHistory", "InvalidState", "InvalidNumber", "InvalidText",
    "InvalidTree", "InvalidLine", "InvalidMark", "InvalidChange", "InvalidKeys", "InvalidPattern", "InvalidTable",
    "InvalidRules", "InvalidLayout", "UnknownDeed", "UnknownSign", "InvalidName", "TakenName", "UnknownName",
    "NothingToUndo",
]
FUNCTIONS = {
    "everrow.history": {
        "deed_names": "history", "deed_named": "history name", "rests": "history name", "bears": "history name",
        "ever_row": "history", "sign_of": "history sign", "is_state": "history value", "whole": "history",
        "closure": "history listed", "heart": "history listed", "seen": "history state", "text_of": "history state",
        "ahead_of": "history state sign",
    },
    "everrow.states": {
        "out": "history state name", "into": "history state name", "meet": "history one other",
        "join": "history one other", "way": "history one other", "is_way": "history one other value",
        "how_many": "history low high", "state_at": "history low high number", "number_of": "history low high state",
        "texts": "history", "showing": "history text", "parted": "history one other",
    },
    "everrow.hands": {"clashes": "history one other"},
    "everrow.trees": {
        "span": "history one other", "state_of": "tree name", "text_at": "tree name", "way_of": "tree one other",
        "cost": "tree one other", "bent": "tree", "kept": "tree number", "unserved": "tree number",
        "doors": "tree one text", "graft": "history base tip onto",
    },
    "everrow.blends": {
        "sign_span": "history one other", "sign_cost": "tree one other", "kept_by_signs": "tree number",
        "unserved_by_signs": "tree number", "blend": "history base one other", "unblended": "history base one other",
        "common": "tree one other", "blended": "tree one other", "turns": "tree name", "holding": "tree name",
    },
    "everrow.seen": {
        "stands": "history state line", "best": "history line", "only": "history line", "read": "history word",
        "whenever": "history one other", "trimmed": "history states",
    },
    "everrow.lines": {
        "best_between": "history low high line", "best_both": "history one other", "fewest_for": "history line",
        "words_shown": "history size",
    },
    "everrow.marks": {
        "place_of": "history state mark", "is_lost": "history state mark", "marks_in_order": "history marks",
        "moves": "history one other marks", "meeting": "history one other", "apart": "history one other",
        "strays": "history states mark", "picked": "history state selection", "crossing": "history folds",
        "folded": "history state folds",
    },
    "everrow.spans": {
        "filled": "history state selection", "emptied": "history state selection",
        "places_between": "history low high mark", "swaps": "history states marks",
    },
    "everrow.changes": {
        "done": "change text", "joined": "one other", "undone": "change text", "parting": "one other",
        "least_change": "text other", "shelves": "text other", "between": "history one other",
        "deeds_for": "history state hand change",
    },
    "everrow.keys": {
        "pressed": "text at keys", "effect": "size at keys", "alike": "one other", "unlike": "one other",
        "commute": "one other", "idle": "keys", "needless": "keys", "outcome": "text at keys",
        "often": "text at keys times",
    },
    "everrow.patterns": {
        "fits": "pattern text", "matches": "pattern text", "next_match": "pattern text place", "struck": "pattern text",
        "same_fits": "one other", "fits_less": "one other", "parting_text": "one other", "common_text": "one other",
        "found_signs": "history state pattern", "replaced": "history state hand pattern text",
        "settle": "rules text most",
    },
    "everrow.fitting": {
        "how_many_fit": "pattern length", "how_many_both": "one other length", "how_many_part": "one other length",
        "fit_at": "pattern length number", "fit_number": "pattern text",
    },
    "everrow.tables": {
        "turned": "table text", "length_after": "table text rounds", "count_after": "table text rounds sign",
        "sign_after": "table text rounds place", "fate": "table text", "worst_sign": "table",
        "present": "table text rounds", "presence": "table text",
    },
    "everrow.orders": {
        "played": "orders line", "unlike_line": "one other", "alike_lines": "one other", "commute_lines": "one other",
        "idle_lines": "orders", "settled": "orders", "undoes": "one other", "source": "orders line",
        "shows": "orders word",
    },
    "everrow.display": {
        "pieces": "line width", "screen": "text width folds=", "spot": "text width place",
        "place_at": "text width row column", "stepped": "text width place rows column", "least_width": "text height",
        "widths": "text", "smooth": "line width", "scrolled": "rows top height row", "ends_alike": "one other width",
    },
    "everrow.journal": {
        "line_of": "deed", "deed_of": "line", "how_many_orders": "history", "order_at": "history number",
        "order_number": "history order", "journal": "history order", "recovered": "text",
        "crashes": "history order sure", "left_state": "history order size lost", "always": "history order size sure",
        "possible": "history order size sure state", "fewest_lost": "history order size sure state",
        "next_apart": "history order size sure state",
    },
    "everrow.texts": {"write_history": "history", "read_history": "text", "wrong_line": "text"},
    "everrow.cursors": {
        "pressed_at": "text cursors keys", "effect_at": "size cursors keys", "alike_at": "one other number",
        "unlike_at": "one other number", "meet_within": "keys",
    },
    "everrow.three": {
        "rubbing": "one other", "both": "one other", "over": "one other", "merges": "elder one other",
    },
    "everrow.outlines": {
        "is_outline": "value", "shifted": "outline shifts", "shift_change": "outline shift", "deeper": "one other",
        "fewest_in": "one other", "flatter": "one other", "steeper": "one other", "how_many_outlines": "one other",
        "outline_at": "one other number", "unlike_outline": "one other",
    },
    "everrow.brackets": {
        "closes": "brackets text", "open_state": "history brackets", "closing": "history brackets state",
        "unfair": "history brackets", "opened": "brackets table", "skeleton": "outline", "outline_of": "text",
    },
    "everrow.words": {
        "terms": "text", "staying": "text change", "keeping": "text other", "typed": "shorts row",
        "meant": "shorts row",
        "two_rows": "shorts", "two_meanings": "shorts",
    },
    "everrow.spelling": {
        "slips": "one other", "nearest": "book string", "mended": "book string most", "mending": "book text most",
        "parting_string": "one other most", "between_two": "book most",
    },
    "everrow.authors": {
        "by_hands": "history state", "without": "history state hand", "alone": "history hands",
        "brought": "history hands text", "fewest_hands": "history text", "turned_by": "history hand sign",
    },
    "everrow.rights": {
        "breaks": "history bars", "granted": "history bars", "is_granted": "history bars state",
        "same_bars": "history one other", "parting_deed": "history one other", "fewest_bars": "history bars",
    },
    "everrow.windows": {
        "rooms": "layout width height", "least_room": "layout wishes", "unlike_size": "one other",
        "settling": "text width other row", "covering": "text width height places",
        "scattered": "text width height places",
    },
}
CLASSES = {
    ("everrow.history", "History"): {"__init__": "deeds", "deeds": "", "__eq__": None},
    ("everrow.hands", "Net"): {
        "__init__": "hands", "put": "hand anchor text", "drop": "hand signs", "send": "hand other listed",
        "heard": "hand", "waiting": "hand", "history": "hand", "text": "hand", "lacks": "hand other", "rounds": "",
    },
    ("everrow.trees", "Tree"): {"__init__": "history rows", "history": "", "rows": "", "__eq__": None},
    ("everrow.changes", "Change"): {"__init__": "size row", "row": "", "__eq__": None},
    ("everrow.editor", "Editor"): {
        "__init__": "hand history=", "history": "", "state": "", "text": "", "place": "", "write": "text",
        "rub": "number",
        "to": "place", "home": "", "end": "", "up": "width", "down": "width", "undo": "", "redo": "", "goto": "state",
        "keep": "name", "back_to": "name", "ordered": "first last orders", "replaced": "pattern text",
        "pressed": "keys",
        "receive": "deeds", "waiting": "", "mark": "name", "at": "name", "journal": "", "copy": "",
    },
    ("everrow.rights", "Desk"): {
        "__init__": "history", "history": "", "bars": "", "bar": "hand selection", "lift": "number", "take": "deed",
        "back": "",
    },
}


class InterfaceTest(unittest.TestCase):

    def test_errors(self):
        module = import_module("everrow.errors")
        for word in ERRORS:
            self.assertEqual(getattr(module, word).__module__, "everrow.errors")

    def test_functions(self):
        for place, rows in FUNCTIONS.items():
            module = import_module(place)
            for word, names in rows.items():
                with self.subTest(f"{place}.{word}"):
                    made = getattr(module, word)
                    self.assertTrue(inspect.isfunction(made))
                    self.assertEqual(made.__module__, place)
                    self.assertEqual(made.__name__, word)
                    self.check_parameters(made, names.split())

    def test_classes(self):
        for (place, word), rows in CLASSES.items():
            made = getattr(import_module(place), word)
            self.assertEqual(made.__module__, place)
            for method, names in rows.items():
                with self.subTest(f"{place}.{word}.{method}"):
                    self.assertIn(method, vars(made))
                    if names is not None:
                        self.check_parameters(vars(made)[method], ["self"] + names.split())

    def check_parameters(self, made, names):
        """Holds the names of the parameters; those with "=" may be left out, and are None then."""
        told = inspect.signature(made).parameters.values()
        self.assertEqual([one.name for one in told], [name.rstrip("=") for name in names])
        for one, name in zip(told, names):
            self.assertEqual(one.kind, inspect.Parameter.POSITIONAL_OR_KEYWORD)
            self.assertIs(one.default, None if name.endswith("=") else inspect.Parameter.empty)


if __name__ == "__main__":
    unittest.main()
