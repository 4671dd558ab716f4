"""[3]: at the limits that the document names, each answer comes within seconds."""

import unittest
from itertools import combinations
from random import Random
from time import monotonic

from everrow import (
    authors, blends, brackets, changes, cursors, display, editor, fitting, hands, journal, keys, lines, marks, orders,
    outlines, patterns, rights, seen, spans, spelling, states, tables, texts, three, trees, windows, words,
)
from everrow.history import History, closure, deed_names, ever_row, heart, rests, text_of, whole
from tests.makers import chain, heap, mixed

SECONDS = 10


def bushy(seed, many=24, drops=2, longest=6):
    """A history of so many deeds, about one of `drops` of them drops of up to six signs."""
    chance = Random(seed)
    deeds, signs = [], []
    for number in range(1, many + 1):
        if signs and chance.randrange(drops) == 0:
            named = sorted(chance.sample(signs, min(len(signs), chance.randint(1, 6))))
            deeds.append(("drop", (number, "a"), named))
        else:
            text = "".join(chance.choice("ab") for _ in range(chance.randint(1, longest)))
            deeds.append(("put", (number, "a"), chance.choice([None] + signs), text))
            signs += [(number, "a", at) for at in range(len(text))]
    return deeds


def crowded(seed):
    """24 deeds with 36 signs, most of them alike."""
    chance = Random(seed)
    deeds = [("put", (k, "a"), (k - 1, "a", chance.randrange(3)) if k > 1 else None, "aaa" if k % 4 else "aab")
             for k in range(1, 13)]
    signs = [(k, "a", at) for k in range(1, 13) for at in range(3)]
    return deeds + [("drop", (20 + k, "b"), sorted(chance.sample(signs, 1 + k % 6))) for k in range(12)]


class LimitsTest(unittest.TestCase):

    def setUp(self):
        self.start = monotonic()

    def tearDown(self):
        self.assertLess(monotonic() - self.start, SECONDS)

    def all_large(self):
        return [History(deeds) for deeds in (heap(24, "abcdef"), chain(24, "abcdef"), mixed(12, 12), mixed(1, 23))
                ] + [History(bushy(seed)) for seed in range(6)]

    def test_histories(self):
        for given in self.all_large():
            top = whole(given)
            for name in deed_names(given):
                rests(given, name)
                self.assertLessEqual(set(heart(given, [name])), set(closure(given, [name])))
                closure(given, top[::-1])
            self.assertEqual(len(ever_row(given)), len(set(ever_row(given))))
            self.assertLessEqual(len(text_of(given, top)), 144)

    def test_states(self):
        for given in self.all_large():
            top = whole(given)
            for name in top:
                less = states.out(given, top, name)
                self.assertTrue(states.is_way(given, less, top, states.way(given, less, top)))
        for deeds in [heap(14), chain(14, "abcdef"), mixed(7, 7)] + [bushy(seed, 14, 3) for seed in range(6)]:
            given = History(deeds)
            top = whole(given)
            many = states.how_many(given, [], top)
            for number in (0, many // 3, many - 1):
                state = states.state_at(given, [], top, number)
                self.assertEqual(states.number_of(given, [], top, state), number)
            found = states.texts(given)
            self.assertLessEqual(len(found), many)
            self.assertEqual(text_of(given, states.showing(given, found[-1])), found[-1])

    def test_parted(self):
        for seed in range(10):
            given = History(bushy(seed, 23))
            top = whole(given)
            for name in top:
                states.parted(given, states.out(given, top, name), top)

    def test_hands(self):
        net = hands.Net(["a", "b", "c", "d"])
        for k in range(24):
            hand = "abcd"[k % 4]
            net.put(hand, None, "abcdef")
            net.send(hand, "abcd"[k // 4 % 4], net.heard(hand)[-2:])
        found = net.rounds()
        for one, other in found:
            net.send(one, other, net.heard(one) + net.waiting(one))
        self.assertEqual([len(net.text(hand)) for hand in "abcd"], [144] * 4)
        given = History(heap(24))
        self.assertEqual(len(hands.clashes(given, whole(given)[:12], whole(given)[12:])), 144)

    def test_trees(self):
        for seed, given in enumerate(self.all_large()):
            chance = Random(seed)
            names = deed_names(given)
            rows = [("a", None, [])]
            for letter in "bcdefghij":
                state = closure(given, chance.sample(names, chance.randint(0, 24)))
                rows.append((letter, chance.choice(rows)[0], state))
            tree = trees.Tree(given, rows)
            trees.bent(tree)
            for number in (0, 5, 12, 100):
                self.assertEqual(len(trees.kept(tree, number)), len(trees.unserved(tree, number)))
                self.assertEqual(len(blends.kept_by_signs(tree, number)), len(blends.unserved_by_signs(tree, number)))
            for one, other in combinations("abcdefghij", 2):
                price, _ = trees.doors(tree, one, trees.text_at(tree, other))
                self.assertLessEqual(price, trees.cost(tree, one, other))
                blends.blended(tree, one, other)
            for name in names:
                blends.turns(tree, name)

    def test_seen(self):
        for given in self.all_large():
            row = ever_row(given)
            for line in (row, row[::2], row[:1] + row[-1:]):
                state = seen.best(given, line)
                self.assertTrue(state is None or seen.stands(given, state, line))
                seen.only(given, line)
                lines.best_both(given, line, row[-1:])
                lines.best_between(given, [], whole(given), line)
            for one in row[::5]:
                for other in row[::7]:
                    seen.whenever(given, one, other)
            seen.trimmed(given, [whole(given)] * 20)

    def test_words(self):
        for seed in range(6):
            given = History(crowded(seed))
            self.assertEqual(len(ever_row(given)), 36)
            for word in ("aaaa", "aaab", "abab", "bbbb", "baab", "aaac"):
                seen.read(given, word)
            for size in (1, 2, 3):
                lines.words_shown(given, size)

    def test_fewest_for(self):
        for seed in range(20):
            given = History(bushy(seed, 14))
            row = ever_row(given)
            for line in combinations(row[::3], 2):
                found = lines.fewest_for(given, list(line))
                self.assertTrue(found is None or seen.stands(given, found, list(line)))

    def test_marks(self):
        for seed, given in enumerate(self.all_large()):
            chance = Random(seed)
            every = [("first",), ("last",)] + [(word, sign) for word in ("ahead", "behind") for sign in ever_row(given)]
            chance.shuffle(every)
            half = min(60, len(every) // 2)
            pairs = list(zip(every[:half], every[half:]))
            rows = [closure(given, chance.sample(whole(given), 9)) for _ in range(20)]
            marks.marks_in_order(given, every)
            marks.moves(given, rows[0], rows[1], every)
            for one, other in pairs:
                marks.strays(given, rows, one)
                marks.meeting(given, one, other)
                marks.apart(given, one, other)
            folds = [tuple(marks.marks_in_order(given, list(pair))) for pair in pairs]
            marks.crossing(given, folds)
            marks.folded(given, whole(given), folds[:1] * 60)
            marks.picked(given, whole(given), folds[0])

    def test_spans(self):
        for seed in range(12):
            given = History(bushy(seed, 14))
            row, chance = ever_row(given), Random(seed)
            for one, other in combinations(row[::4] + row[-1:], 2):
                selection = (("ahead", one), ("behind", other))
                many = row.index(other) + 1 - row.index(one)
                for state in ([], whole(given), closure(given, chance.sample(whole(given), 5))):
                    self.assertEqual(marks.picked(given, spans.emptied(given, state, selection), selection), "")
                    self.assertEqual(len(marks.picked(given, spans.filled(given, state, selection), selection)), many)
            for sign in row:
                spans.places_between(given, [], whole(given), ("behind", sign))
        for given in self.all_large():
            spans.places_between(given, [], whole(given), ("last",))
            every = [("behind", sign) for sign in ever_row(given)]
            spans.swaps(given, [closure(given, [name]) for name in whole(given)], every)

    def test_changes(self):
        chance = Random(1)
        for size in (200, 400):
            text = "".join(chance.choice("abc") for _ in range(size))
            change = changes.Change(size, [k for k in range(size) if k % 3] + ["x"] * 100)
            self.assertEqual(changes.done(changes.undone(change, text), changes.done(change, text)), text)
            changes.joined(change, changes.undone(change, text))
        for _ in range(50):
            one, other = ["".join(chance.choice("abc") for _ in range(200)) for _ in range(2)]
            self.assertEqual(len(changes.shelves(one[:30], other[:30])),
                             30 - len([item for item in changes.least_change(one[:30], other[:30]).row()
                                       if isinstance(item, str)]))
        changes.least_change(one, other)
        for given in self.all_large():
            changes.between(given, [], whole(given))
            size = len(text_of(given, whole(given)))
            changes.deeds_for(given, whole(given), "z", changes.Change(size, ["x"] * 20))

    def test_keys(self):
        wide = [("left", 9), ("first",), ("right", 6), ("write", "abcdef"), ("last",), ("rub", 9), ("left", 1)]
        many = [("right", 3)] * 10 + [("first",)] * 2
        for one in (wide, many, many[:5] + wide[:4]):
            for call in (keys.idle, keys.needless):
                call(one)
            keys.alike(one, one)
            keys.unlike(one, [])
            keys.commute(one, one)
        chance = Random(2)
        for _ in range(200):
            some = [("left", 9), ("right", 9), ("rub", 9), ("cut", 9), ("left", 8), ("right", 7), ("first",), ("last",)]
            row = [chance.choice(some + [("write", "abcdef")]) for _ in range(12)]
            for at in (0, 100, 200):
                keys.outcome("ab" * 100, at, row)
                keys.often("ab" * 100, at, row, 10 ** 18)
                keys.effect(200, at, row)

    def test_patterns(self):
        gap, wide = ("gap",), ("set", "abcdefghijklmnopqrstuvwxyz")
        hard = [["aaaaaa", gap, "aaaaab", gap, "aaaaaa", "aaaaac"], ["a", gap, wide, ("set", "ab"), wide, "aaaaaa"],
                ["aaaaaa", "aaaaaa", gap, "aaaaaa", "aaaaaa", ("set", "ac")], [wide] * 6, [wide, gap, wide, gap, wide]]
        for one in hard:
            for text in ("a" * 200, "aaaaab" * 33, "ab\n" * 66):
                patterns.matches(one, text)
                patterns.next_match(one, text, len(text))
                fitting.fit_number(one, text)
            many = fitting.how_many_fit(one, 200)
            if many:
                self.assertEqual(fitting.fit_number(one, fitting.fit_at(one, 200, many - 1)), many - 1)
            for other in hard:
                patterns.parting_text(one, other)
                patterns.common_text(one, other)
                both = fitting.how_many_both(one, other, 200)
                self.assertEqual(fitting.how_many_part(one, other, 200),
                                 many + fitting.how_many_fit(other, 200) - 2 * both)
        patterns.settle([("a", "bbbbbb"), ("b", "cccccc"), ("c", "dddddd"), ("d", "")], "a" * 200, 400)
        for given in self.all_large():
            patterns.replaced(given, whole(given), "z", [("set", "abc")], "abcdef")

    def test_tables(self):
        far = 10 ** 18
        letters = "abcdefghij"
        creeping = [(sign, more + sign) for sign, more in zip(letters, "bcdefghijk")]
        ringing = [("a", "bzz"), ("b", "zcz"), ("c", "dz"), ("d", "e"), ("e", "za"), ("f", "ga"), ("g", "ah"),
                   ("h", "iz"), ("i", "f"), ("z", "")]
        for table, text in ((creeping, letters * 20), (creeping, "a\nb c" * 40), (ringing, "abcdf" * 40)):
            length = tables.length_after(table, text, far)
            for place in (0, 1, length // 3, length // 2, length - 2, length - 1):
                tables.sign_after(table, text, far, place)
            tables.count_after(table, text, far, text[0])
            tables.presence(table, text)
            tables.present(table, text, far)
        bursting = [(sign, sign + letters[(at * 3 + 1) % 10] + letters[(at * 7 + 2) % 10] + "z")
                    for at, sign in enumerate(letters)]
        length = tables.length_after(bursting, letters * 20, 300)
        for place in (0, length // 3, length - 1):
            tables.sign_after(bursting, letters * 20, 300, place)
        for table in (creeping[:6], ringing[:6], [(sign, more * 4) for sign, more in zip(letters[:6], letters[1:])]):
            tables.fate(table, "abcdef" * 3 + "zz")
            tables.worst_sign(table)

    def test_orders(self):
        chance = Random(3)
        for letters in ("ab", "abcd", "abcdef"):
            for _ in range(2):
                rows = [("replace", "".join(chance.choice(letters) for _ in range(3)),
                         "".join(chance.choice(letters) for _ in range(chance.randint(0, 3)))) for _ in range(3)]
                for one in (rows + [("last", 2)], [("last", 2)] + rows, rows[:2] + [("last", 1), ("last", 1)]):
                    orders.unlike_line(one, one)
                    orders.unlike_line(one, one[::-1])
                    orders.idle_lines(one)
                    orders.commute_lines(one[:2], one[2:])
                    orders.undoes(one[2:], one[:2])
                    orders.source(one, (letters * 4)[:8])
                    orders.shows(one, (letters * 2)[:4])
                orders.settled([("last", 1), rows[0]])

    def test_display(self):
        chance = Random(4)
        for signs in ("ab ", "a\n ", "abc \n", "a", " ", "\n"):
            text = "".join(chance.choice(signs) for _ in range(200))
            display.widths(text)
            display.least_width(text, 3)
            line = text.replace("\n", " ")
            for width in (1, 2, 7, 50, 200):
                display.smooth(line, width)
                display.ends_alike(line, line, width)
                for place in range(0, 201, 20):
                    display.stepped(text, width, place, 3, 4)

    def test_journal(self):
        for seed in range(6):
            given = History(bushy(seed, 14))
            many = journal.how_many_orders(given)
            order = journal.order_at(given, many // 2)
            self.assertEqual(journal.order_number(given, order), many // 2)
            for size in (1, 10, 100, 1000):
                sure = [block for block in range(3) if block * size < len(journal.journal(given, order))]
                for state in journal.crashes(given, order, 0):
                    self.assertIs(journal.fewest_lost(given, order, size, sure, state) is not None,
                                  journal.possible(given, order, size, sure, state))
                    journal.next_apart(given, order, size, sure, state)
                journal.always(given, order, size, sure)
        for given in self.all_large():
            text = journal.journal(given, whole(given))
            self.assertEqual(journal.recovered(text), (given, len(text)))
            self.assertEqual(len(journal.crashes(given, whole(given), 0)), 25)
            self.assertEqual(journal.left_state(given, whole(given), 1, list(range(len(text)))), [])
            self.assertEqual(texts.read_history(texts.write_history(given)), given)
            self.assertEqual(texts.wrong_line(text * 2), 25)

    def test_editor(self):
        for given in self.all_large():
            pen = editor.Editor("z", given)
            for _ in range(20):
                pen.down(7)
                pen.up(5)
                pen.home()
            pen.receive(given.deeds()[::-1])
            pen.copy().goto([])
        pen = editor.Editor("a")
        for at in range(24):
            pen.to(at // 2)
            pen.write("abcdef")
        for _ in range(24):
            pen.undo()
        for _ in range(24):
            pen.redo()
        self.assertEqual(len(pen.text()), 144)
        other = editor.Editor("b")
        for deed in pen.journal()[::-1]:
            other.receive([deed])
        self.assertEqual(other.text(), pen.text())

    def test_cursors(self):
        wide = [("left", 1), ("right", 1), ("rub", 1), ("cut", 1), ("left", 1)] + [("write", "abcdef")] * 7
        mixed_up = [("right", 2), ("write", "ab"), ("rub", 3)] + [("first",), ("last",)] * 4
        for one in (wide, mixed_up):
            self.assertTrue(cursors.alike_at(one, one, 3))
        self.assertIsNone(cursors.unlike_at([("left", 5)], [("left", 3), ("left", 2)], 3))
        cursors.meet_within(wide)
        text = "ab" * 100
        cursors.pressed_at(text, [0, 50, 100, 200], [("write", "abcdef")] * 8 + [("rub", 9)] * 4)

    def test_three(self):
        one = changes.Change(100, [item for number in range(100) for item in (number, "x")])
        other = changes.Change(100, ["y"] * 100 + list(range(0, 100, 2)))
        for call in (three.both, three.over, three.rubbing):
            call(one, other)
            call(one, one)
        for lines_of_five in (["a"] * 5, ["a", "b"] * 2 + ["a"], [""] * 5):
            text = "\n".join(lines_of_five)
            three.merges(text, text, text)
            three.merges(text, text[::-1], text[2:])

    def test_outlines(self):
        chance = Random(5)
        for _ in range(30):
            rows = []
            for _ in range(2):
                row = [0]
                while len(row) < 19:
                    row.append(chance.randint(0, row[-1] + 1))
                rows.append("\n".join(" " * depth for depth in row))
            low, high = outlines.flatter(*rows), outlines.steeper(*rows)
            self.assertEqual(outlines.shifted(low, outlines.fewest_in(low, high)), high)
            many = outlines.how_many_outlines(low, high)
            for number in (0, many // 2, many - 1):
                outlines.outline_at(low, high, number)
            self.assertEqual(brackets.outline_of(brackets.skeleton(low)), low)
        deep = [("in", line) for line in range(7)] * 6
        outlines.unlike_outline(deep, deep)
        outlines.unlike_outline(deep, deep[::-1])

    def test_brackets(self):
        kinds = [("a", "b"), ("c", "d"), ("e", "f")]
        for deeds in [heap(14, "abcdef"), chain(14, "ab"), mixed(7, 7)] + [bushy(seed, 14, 3) for seed in range(4)]:
            given = History(deeds)
            brackets.open_state(given, kinds)
            brackets.closing(given, kinds, whole(given))
        for given in self.all_large():
            brackets.unfair(given, kinds)
        brackets.opened(kinds, [(sign, sign * 4) for sign in "abcdefghij"])
        brackets.closes(kinds, "ace" * 33 + "f" * 101)

    def test_terms_and_shorts(self):
        for one, other in (("a " * 30, "a b" * 20), ("ab\n" * 20, "ab " * 20), ("a" * 60, "b" * 60)):
            self.assertEqual(changes.done(words.keeping(one, other), one), other)
        words.staying("a " * 100, changes.Change(200, list(range(200))))
        for shorts in (["aaaa", "aaab", "abaa", "baaa", "bbaa", "abba"], ["a", "ab", "abb", "abbb", "bbba", "bbbb"],
                       ["aaab", "aaaa", "aa", "baa", "ab", "abbb"], ["ca", "c", "ab", "ba", "abab", "baba"]):
            for longs in ("xxxxxx", "xyzxyz"):
                rows = [(short, long * size) for short, long, size in zip(shorts, longs, (1, 2, 3, 4, 5, 6))]
                words.two_rows(rows)
                words.two_meanings(rows)

    def test_spelling(self):
        books = [["abcde", "fghij", "klmno", "pqrst"], ["aabba", "abbab", "babba", "bbabb"],
                 ["aaaaa", "aaaab", "aaaac", "b"],
                 ["abcde", "abced", "abdce", "acbde"], ["uvwxy", "vwxyz", "wxyza", "xyzab"]]
        for one in books:
            for most in range(3):
                spelling.between_two(one, most)
                for other in books + [one[:3], one[1:]]:
                    self.assertEqual(spelling.parting_string(one, sorted(other), most) is None, one == sorted(other))
        eight = ["abcdefg" + letter for letter in "abcdefgh"]
        spelling.mending(eight, "abcdefghij " * 18, 3)

    def test_authors(self):
        large = [heap(14, "ab"), chain(14, "ab"), mixed(7, 7)] + [bushy(seed, 14, 3) for seed in range(4)]
        for seed, deeds in enumerate(large):
            given = History([(deed[0], (deed[1][0], "abcde"[deed[1][0] % 5]), *self.by_more(deed)) for deed in deeds])
            text = text_of(given, closure(given, whole(given)[:seed + 2]))
            told = authors.fewest_hands(given, text)
            self.assertEqual(text_of(given, authors.brought(given, told, text)), text)
        for given in self.all_large():
            for sign in ever_row(given):
                authors.turned_by(given, "a", sign)
            authors.by_hands(given, whole(given))
            authors.alone(given, ["a"])
            authors.without(given, whole(given), "b")

    def by_more(self, deed):
        """What a deed names and puts, by hands that go round by its numbers."""
        names = [None if sign is None else (sign[0], "abcde"[sign[0] % 5], sign[2])
                 for sign in (deed[2] if deed[0] == "drop" else [deed[2]])]
        return [names] if deed[0] == "drop" else [names[0], deed[3]]

    def test_rights(self):
        for deeds in (heap(23, "abcdef"), chain(23, "abcdef"), mixed(12, 11), bushy(1, 23), bushy(2, 23)):
            given = History(deeds)
            row = ever_row(given)
            bars = [(hand, (("ahead", sign), ("behind", sign))) for sign in row for hand in ("a", "b")]
            other = [("a", (("first",), ("last",))), ("b", (("ahead", row[0]), ("behind", row[-1])))]
            for call in (rights.breaks, rights.granted, rights.fewest_bars):
                call(given, bars + other)
            self.assertFalse(rights.same_bars(given, bars, other))
            self.assertIsNotNone(rights.parting_deed(given, bars, other))
            desk = rights.Desk(given)
            for bar in bars:
                desk.bar(*bar)
            desk.take(("put", (99, "z"), None, "z"))
            for _ in range(len(bars) + 1):
                desk.back()

    def test_windows(self):
        far = 10 ** 30 - 1
        deep = ("across", [(9, ("down", [(8, ("across", [(7, ("down", [(9, "a"), (1, "b")])), (9, "c")])), (9, "d")])),
                           (1, "e"), (5, "f"), (7, ("down", [(3, "g"), (2, "h")]))])
        windows.rooms(deep, far, far)
        windows.least_room(deep, [(name, far, far) for name in "abcdefgh"])
        late = [("across", [(3, "a"), (2, ("across", [(3, "b"), (2, ("across", [(one, "c"), (other, "d")]))]))])
                for one, other in ((1, 2), (2, 3), (1, 1), (3, 3))]
        for one in late:
            for other in late:
                windows.unlike_size(one, other)
        text = "ab cde f " * 22
        for width in (1, 5, 30):
            for row in range(0, len(display.screen(text, width)), 7):
                windows.settling(text, width, 11, row)
            windows.covering(text, width, 3, list(range(199)))
            windows.scattered(text, width, 3, list(range(199)))


if __name__ == "__main__":
    unittest.main()
