"""[110] to [114]: journals, orders, crashes and lost blocks."""

import unittest
from itertools import chain as joined
from itertools import combinations, permutations
from random import Random

from everrow.errors import InvalidHistory, InvalidItem, InvalidList, InvalidNumber, InvalidState, InvalidText
from everrow.history import History, deed_names, is_state, whole
from everrow.journal import (
    always, crashes, deed_of, fewest_lost, how_many_orders, journal, left_state, line_of, next_apart, order_at,
    order_number, possible, recovered,
)
from tests import naive
from tests.cases import Case
from tests.makers import (
    NO_HISTORIES, NO_LISTS, NO_NUMBERS, PLAIN, chain, heap, mixed, no_states, plain, random_deeds,
)

FAR = 10 ** 18
ANN, BOB, DROP = (1, "ann"), (2, "bob"), (3, "ann")
NO_DEEDS = [
    None, True, 0, "put", [], (), {}, ["put", ANN, None, "a"], ("put", ANN, None), ("put", ANN, None, ""),
    ("put", ANN, None, "abcdefg"), ("put", ANN, None, "A"), ("put", (0, "ann"), None, "a"),
    ("put", (True, "ann"), None, "a"), ("put", (FAR + 1, "ann"), None, "a"), ("put", (1, "Ann"), None, "a"),
    ("put", ANN, (1, "ann", 6), "a"), ("put", ANN, ANN, "a"), ("put", ANN, None, "a", 1), ("drop", ANN),
    ("drop", ANN, []), ("drop", ANN, [(1, "ann", 0)] * 2), ("drop", ANN, ((1, "ann", 0),)),
    ("drop", ANN, [(2, "ann", 0), (1, "ann", 0)]), ("drop", ANN, [(1, "ann", k) for k in range(7)]),
    ("keep", ANN, None, "a"), (["put"], ANN, None, "a"), (None, ANN), plain(),
]
NO_STRINGS = [None, True, 0, [], (), {}, ["a"], plain()]


def naive_line(deed):
    """The line of a deed, put together word by word."""
    words = [deed[0], str(deed[1][0]), deed[1][1]]
    if deed[0] == "put":
        words += ["-"] if deed[2] is None else [str(deed[2][0]), deed[2][1], str(deed[2][2])]
        words.append("".join({" ": "_", "\n": "/"}.get(sign, sign) for sign in deed[3]))
    else:
        for number, hand, at in deed[2]:
            words += [str(number), hand, str(at)]
    body = " ".join(words)
    total = 0
    for place in range(1, len(body) + 1):
        total += place * ord(body[place - 1])
    return str(len(body)) + ":" + body + ";" + str(total % 97 // 10) + str(total % 97 % 10)


def many_deeds():
    """Deeds of all kinds."""
    hands = ("a", "bob", "abcdefgh")
    found = [deed for seed in range(20) for deed in random_deeds(seed, 12, letters="ab \nz", hands=hands, longest=6)]
    signs = [(FAR - 1, "abcdefgh", at) for at in range(6)]
    return found + [("put", (FAR, "z"), None, " \n \n z"), ("put", (FAR, "abcdefgh"), signs[5], "abcdef"),
                    ("drop", (FAR, "abcdefgh"), signs), ("put", (1, "a"), None, "a"),
                    # Whether deeds fit a history is nothing that their lines tell.
                    ("put", (1, "a"), (5, "b", 5), "a"), ("drop", (1, "a"), [(1, "a", 0)])]


class LinesTest(Case):
    """[110]"""

    def test_all(self):
        lines = {}
        for deed in many_deeds():
            line = line_of(deed)
            self.assertEqual(line, naive_line(deed))
            self.assertEqual(deed_of(line), deed)
            self.assertIs(type(deed_of(line)), tuple)
            lines[line] = deed
        for one, other in combinations(lines, 2):
            self.assertFalse(one.startswith(other) or other.startswith(one))

    def test_edges(self):
        self.assertEqual(line_of(("put", (4, "ann"), (2, "bob", 0), "ab c\n")), naive_line(
            ("put", (4, "ann"), (2, "bob", 0), "ab c\n")))
        self.assertTrue(line_of(("put", (4, "ann"), (2, "bob", 0), "ab c\n")).startswith("23:put 4 ann 2 bob 0 ab_c/;"))
        self.assertTrue(line_of(("drop", (5, "bob"), [(2, "ann", 0), (2, "ann", 1)])).startswith(
            "26:drop 5 bob 2 ann 0 2 ann 1;"))

    def test_changed_lines(self):
        """No string that a slip leaves is a line."""
        chance = Random(1)
        for deed in many_deeds()[::9] + many_deeds()[-6:]:
            line = line_of(deed)
            begin, end = line.index(":") + 1, line.rindex(";")
            for at in range(begin, min(end, begin + 96)):
                for sign in chance.sample("abz019 _/-:;\n~A", 5):
                    if sign != line[at]:
                        self.refuse_each(InvalidText, [line[:at] + sign + line[at + 1:]], deed_of)
            for at in range(begin, end - 1):
                if line[at] != line[at + 1]:
                    self.refuse_each(InvalidText, [line[:at] + line[at + 1] + line[at] + line[at + 2:]], deed_of)
            for at in range(len(line)):
                self.refuse_each(InvalidText, [line[:at], line[:at] + line[at + 1:], line + line[at]], deed_of)

    def test_wrong_lines(self):
        """Strings whose length and sum are right, but which are written otherwise than any line."""
        bodies = [
            "put 04 ann - a", "put +4 ann - a", "put 4 ann - ", "put 4 ann  - a", "put 4 ann -  a", "put 4 ann - a b",
            " put 4 ann - a", "put 4 ann - a ", "put 4 ann - abcdefg", "put 4 Ann - a", "put 0 ann - a",
            "put 4 ann - A", f"put {FAR + 1} ann - a", "put 4 ann 2 bob 6 a", "put 4 ann 2 bob 01 a",
            "put 4 ann 2 bob a", "put 4 ann a", "put 4 ann 2 bob 0", "drop 4 ann", "drop 4 ann ", "drop 4 ann 2 bob",
            "drop 4 ann 2 bob 1 2 bob 1", "drop 4 ann 2 bob 1 2 bob 0", "drop 4 ann 2 bob 0 2", "drop 4 ann -",
            "drop 4 ann - a", "keep 4 ann - a", "", "put", "put 4", "put 1_0 ann - a", "put 4 ann - a\n",
            "put 4 ann\n- a", "put 4 ann None a", "put 4.0 ann - a", "put " + "9" * 5000 + " ann - a",
            "put 4 ann - a:b", "put 4 ann - a;b", "put \u0664 ann - a", "put 4 ann - \u00e4", "put 4 abcdefghi - a",
            "drop 4 ann " + " ".join(f"1 bob {k}" for k in range(6)) + " 2 bob 0", "put -4 ann - a",
        ]
        for body in bodies:
            total = sum(place * ord(sign) for place, sign in enumerate(body, 1)) % 97
            self.refuse_each(InvalidText, [f"{len(body)}:{body};{total:02d}"], deed_of)
        good = line_of(("put", (1, "ann"), None, "ab"))
        self.assertEqual(good, "14:put 1 ann - ab;74")
        wrong = ["014:put 1 ann - ab;74", "14:put 1 ann - ab;074", "14:put 1 ann - ab;73", "13:put 1 ann - ab;74",
                 "14:put 1 ann - ab74", "14put 1 ann - ab;74", " " + good, "14:put 1 ann - ab; 74", good + "\n",
                 "14:put 1 ann - ab;171", "put 1 ann - ab;74", "14:put 1 ann - ab", ":put 1 ann - ab;74", good + good]
        self.refuse_each(InvalidText, wrong + NO_STRINGS, deed_of)
        # A sum of less than ten has two digits, too.
        deed = next(deed for deed in many_deeds() if naive_line(deed)[-2] == "0")
        self.refuse_each(InvalidText, [line_of(deed)[:-2] + line_of(deed)[-1]], deed_of)

    def test_errors(self):
        self.refuse_each(InvalidItem, NO_DEEDS, line_of)

    def test_lists_stay(self):
        deed = ("drop", (3, "ann"), [(1, "ann", 0)])
        line_of(deed)
        deed_of(line_of(deed))[2].append(1)
        self.assertEqual(deed, ("drop", (3, "ann"), [(1, "ann", 0)]))


def all_orders(deeds):
    """All orders, as Python orders lists."""
    below = naive.rests_on(deeds)
    return sorted(list(row) for row in permutations(sorted(below))
                  if all(below[name] <= set(row[:at]) for at, name in enumerate(row)))


def any_order(deeds, seed):
    """One of the orders."""
    below, chance, row = naive.rests_on(deeds), Random(seed), []
    while len(row) < len(deeds):
        row.append(chance.choice([name for name in sorted(below) if name not in row and below[name] <= set(row)]))
    return row


def no_orders():
    """Values that are no orders of the plain history."""
    return NO_LISTS + [
        [], [ANN], [ANN, BOB], [BOB, ANN, DROP], [ANN, ANN, BOB], [ANN, BOB, DROP, DROP], [ANN, BOB, (4, "ann")],
        [ANN, BOB, None], [ANN, BOB, [3, "ann"]], [(True, "ann"), BOB, DROP], (ANN, BOB, DROP), [DROP, ANN, BOB],
        [[], BOB],
    ]


class OrdersTest(Case):
    """[111]"""

    def test_all(self):
        for seed in range(24):
            deeds = random_deeds(seed, seed % 7, drops=1 + seed % 3)
            given, rows = History(deeds), all_orders(deeds)
            self.assertEqual(how_many_orders(given), len(rows))
            for number, row in enumerate(rows if seed % 6 else rows[::7]):
                at = rows.index(row)
                self.assertEqual(order_at(given, at), row)
                self.assertEqual(order_number(given, row), at)
            self.refuse_each(InvalidNumber, NO_NUMBERS + [-1, len(rows)], lambda value: order_at(given, value))

    def test_fourteen(self):
        product_of = 1
        for many in range(1, 15):
            product_of *= many
            self.assertEqual(how_many_orders(History(heap(many))), product_of)
            self.assertEqual(how_many_orders(History(chain(many))), 1)
        given = History(heap(14))
        self.assertEqual(order_at(given, 0), whole(given))
        self.assertEqual(order_at(given, product_of - 1), whole(given)[::-1])
        self.assertEqual(order_number(given, whole(given)[::-1]), product_of - 1)
        self.refuse_each(InvalidNumber, [product_of], lambda value: order_at(given, value))
        for seed in range(8):
            deeds = random_deeds(seed, 14, drops=2)
            given = History(deeds)
            many = self.count_downwards(deeds)
            self.assertEqual(how_many_orders(given), many)
            for number in (0, many // 3, many // 2, many - 1):
                row = order_at(given, number)
                self.assertEqual(order_number(given, row), number)
                self.assertEqual(sorted(row), whole(given))
            self.assertTrue(order_at(given, many // 3) < order_at(given, many // 2))

    def count_downwards(self, deeds):
        """How many orders there are, by the states that they go through."""
        counts = {(): 1}
        for state in sorted(naive.states(deeds), key=len)[1:]:
            before = [tuple(name for name in state if name != last) for last in state]
            counts[tuple(state)] = sum(counts.get(row, 0) for row in before)
        return counts[tuple(sorted(deed[1] for deed in deeds))]

    def test_empty(self):
        given = History([])
        self.assertEqual((how_many_orders(given), order_at(given, 0), order_number(given, [])), (1, [], 0))
        self.assertEqual((journal(given, []), crashes(given, [], 0)), ("", [[]]))
        self.refuse_each(InvalidNumber, [1], lambda value: order_at(given, value))

    def test_errors(self):
        self.refuse_each(InvalidHistory, NO_HISTORIES, how_many_orders)
        self.refuse_each(InvalidHistory, NO_HISTORIES, lambda value: order_at(value, None))
        calls = [order_number, journal, lambda *told: crashes(*told, None), lambda *told: left_state(*told, None, None),
                 lambda *told: always(*told, None, None), lambda *told: possible(*told, None, None, None),
                 lambda *told: fewest_lost(*told, None, None, None), lambda *told: next_apart(*told, None, None, None)]
        for call in calls:
            self.refuse_each(InvalidHistory, NO_HISTORIES, lambda value: call(value, None))
            self.refuse_each(InvalidList, no_orders(), lambda value: call(plain(), value))

    def test_lists_stay(self):
        order = [ANN, DROP, BOB]
        calls = [order_number, journal, lambda *told: crashes(*told, 1), lambda *told: left_state(*told, 9, [1]),
                 lambda *told: always(*told, 9, [1]), lambda *told: next_apart(*told, 9, [1], []),
                 lambda *told: fewest_lost(*told, 9, [1], [])]
        for call in calls:
            call(plain(), order)
            self.assertEqual(order, [ANN, DROP, BOB])
        crashes(plain(), order, 3)[0].clear()
        self.assertEqual(crashes(plain(), order, 3), [[ANN, BOB, DROP]])


class RecoveredTest(Case):
    """[112]"""

    def recover(self, text):
        """The deeds of the longest beginning that fits, by trying all beginnings that end with a line feed."""
        best = ([], 0)
        for end in range(len(text) + 1):
            if end == 0 or text[end - 1] == "\n":
                try:
                    deeds = [deed_of(line) for line in text[:end].split("\n")[:-1]]
                    for many in range(len(deeds) + 1):
                        History(deeds[:many])
                    best = (deeds, end)
                except (InvalidText, InvalidItem, InvalidList):
                    pass
        return best

    def check(self, text):
        deeds, many = self.recover(text)
        self.assertEqual(recovered(text), (History(deeds), many))

    def test_journal(self):
        for seed in range(20):
            deeds = random_deeds(seed, seed % 8, letters="ab \n")
            order = any_order(deeds, seed)
            known = {deed[1]: deed for deed in deeds}
            text = journal(History(deeds), order)
            self.assertEqual(text, "".join(naive_line(known[name]) + "\n" for name in order))
            self.assertEqual(recovered(text), (History(deeds), len(text)))

    def test_beginnings(self):
        """All beginnings of journals, with more behind them."""
        for seed in range(6):
            deeds = random_deeds(seed, 4)
            order = any_order(deeds, seed)
            text = journal(History(deeds), order)
            ends = [at + 1 for at, sign in enumerate(text) if sign == "\n"]
            for end in range(len(text) + 1):
                whole_lines = len([one for one in ends if one <= end])
                made, many = recovered(text[:end])
                self.assertEqual(deed_names(made), sorted(order[:whole_lines]))
                self.assertEqual(many, ([0] + ends)[whole_lines])
                for more in ("x", "\n", text):
                    self.check(text[:end] + more)

    def test_lines_that_do_not_fit(self):
        deeds = PLAIN
        lines = [line_of(deed) + "\n" for deed in deeds]
        for size in range(5):
            for row in combinations(lines * 2, size):
                self.check("".join(row))
        for row in permutations(lines):
            self.check("".join(row))
        # A deed whose number is not greater than that of the sign that it names, and a sign that there is not.
        wrong = [("drop", (1, "bob"), [(1, "ann", 0)]), ("put", (2, "z"), (1, "ann", 2), "a"), ("put", ANN, None, "z")]
        for deed in wrong:
            text = lines[0] + line_of(deed) + "\n"
            self.assertEqual(recovered(text), (History(deeds[:1]), len(lines[0])))
        for text in ("", "\n", "x", "\n" + lines[0], lines[0][:-1], lines[0].replace("\n", "\r\n"), " " + lines[0]):
            self.assertEqual(recovered(text), (History([]), 0))

    def test_twenty_four(self):
        deeds = heap(25)
        text = "".join(line_of(deed) + "\n" for deed in deeds)
        short = "".join(line_of(deed) + "\n" for deed in deeds[:24])
        self.assertEqual(recovered(text), (History(deeds[:24]), len(short)))
        given = History([("put", (FAR - 24 + k, "abcdefgh"), None, "a\n b c") for k in range(24)])
        text = journal(given, whole(given)[::-1])
        self.assertEqual(recovered(text), (given, len(text)))
        self.assertEqual(recovered(text[:len(text) // 2 + 7])[1], len(text) // 2)

    def test_crashes(self):
        for seed in range(12):
            deeds = random_deeds(seed, seed % 6, drops=2)
            given, order = History(deeds), any_order(deeds, seed)
            text = journal(given, order)
            for sure in range(len(deeds) + 1):
                least = len("".join(line + "\n" for line in text.split("\n")[:sure]))
                found = {tuple(deed_names(recovered(text[:end])[0])) for end in range(least, len(text) + 1)}
                wanted = sorted((list(row) for row in found), key=len)
                self.assertEqual(crashes(given, order, sure), wanted)
                self.assertEqual(wanted, [sorted(order[:many]) for many in range(sure, len(order) + 1)])
        given = History(mixed(12, 12))
        self.assertEqual(len(crashes(given, whole(given), 0)), 25)
        self.assertEqual(crashes(given, whole(given), 24), [whole(given)])

    def test_errors(self):
        self.refuse_each(InvalidText, NO_STRINGS, recovered)
        order = [ANN, BOB, DROP]
        self.refuse_each(InvalidNumber, NO_NUMBERS + [-1, 4], lambda value: crashes(plain(), order, value))


def lots(blocks):
    """All lists of some blocks."""
    return [list(row) for row in joined.from_iterable(combinations(blocks, size) for size in range(len(blocks) + 1))]


class BlocksTest(Case):
    """[113], [114]"""

    def spans(self, given, order, size):
        """For each deed the blocks that its line has characters in, one character at a time; and how many there are."""
        found, at = {name: set() for name in order}, 0
        for name, line in zip(order, journal(given, order).split("\n")):
            for _ in line + "\n":
                found[name].add(at // size)
                at += 1
        return found, (at + size - 1) // size

    def left(self, deeds, spans, lost):
        """The greatest state within the deeds that are not gone."""
        gone = {name for name in spans if spans[name] & set(lost)}
        below = naive.rests_on(deeds)
        return [name for name in sorted(below) if name not in gone and not below[name] & gone]

    def cases(self):
        """Histories with orders, and sizes at which there are at most nine blocks."""
        for seed in range(30):
            deeds = random_deeds(seed, seed % 6, drops=1 + seed % 3)
            given, order = History(deeds), any_order(deeds, seed)
            length = len(journal(given, order))
            for size in {length // 9 + 1, length // 4 + 1, length, length + 5} - {0}:
                yield seed, deeds, given, order, size

    def test_left(self):
        for seed, deeds, given, order, size in self.cases():
            spans, many = self.spans(given, order, size)
            for lost in lots(range(many)):
                wanted = self.left(deeds, spans, lost)
                self.assertEqual(left_state(given, order, size, lost), wanted)
                self.assertTrue(is_state(given, wanted))

    def test_sure(self):
        told = {True: 0, False: 0}
        for seed, deeds, given, order, size in self.cases():
            spans, many = self.spans(given, order, size)
            chance = Random(seed)
            for sure in [[], list(range(many))] + chance.sample(lots(range(many)), min(3, 2 ** many)):
                free = [block for block in range(many) if block not in sure]
                found = {}
                for lost in lots(free):
                    found.setdefault(tuple(self.left(deeds, spans, lost)), lost)
                common = set.intersection(*[set(state) for state in found])
                wanted = max((state for state in naive.states(deeds) if set(state) <= common), key=len)
                self.assertEqual(always(given, order, size, sure), wanted)
                for state in naive.states(deeds):
                    fewest = found.get(tuple(state))
                    told[fewest is not None] += 1
                    self.check_state(given, order, size, sure, state, fewest)
        self.assertTrue(min(told.values()) > 100, told)

    def check_state(self, given, order, size, sure, state, fewest):
        """Holds the answers for one state against as few blocks as can be lost to leave it, or None."""
        self.assertIs(possible(given, order, size, sure, state), fewest is not None)
        lost = fewest_lost(given, order, size, sure, state)
        apart = next_apart(given, order, size, sure, state)
        if fewest is None:
            self.assertIsNone(lost)
            self.assertEqual(apart, [])
            return
        self.assertEqual(len(lost), len(fewest))
        self.assertEqual(lost, sorted(set(lost) - set(sure)))
        self.assertEqual(left_state(given, order, size, lost), state)
        self.check_apart(given, order, size, sure, state, apart)
        self.assertEqual(len(apart), len(fewest))

    def check_apart(self, given, order, size, sure, state, apart):
        spans, many = self.spans(given, order, size)
        below = naive.rests_on(given.deeds())
        self.assertEqual(apart, sorted(apart))
        kept = set(sure).union(*[spans[name] for name in state])
        for name in apart:
            self.assertTrue(name not in state and below[name] <= set(state))
        for one, other in combinations(apart, 2):
            self.assertFalse((spans[one] & spans[other]) - kept)

    def test_most_apart(self):
        """No more deeds lie apart than are told."""
        for seed in range(40):
            deeds = heap(5) if seed % 2 else random_deeds(seed, 5, drops=9)
            given, order = History(deeds), any_order(deeds, seed)
            for size in (7, 12, 20, 30):
                spans, many = self.spans(given, order, size)
                sure = [block for block in range(many) if Random(seed + block).randrange(4) == 0]
                for state in naive.states(deeds):
                    if not possible(given, order, size, sure, state):
                        continue
                    kept = set(sure).union(*[spans[name] for name in state])
                    below = naive.rests_on(deeds)
                    following = [name for name in below if name not in state and below[name] <= set(state)]
                    most = max(len(row) for row in lots(following) if all(
                        not (spans[one] & spans[other]) - kept for one, other in combinations(row, 2)))
                    self.assertEqual(len(next_apart(given, order, size, sure, state)), most)

    def test_fourteen(self):
        for deeds in (heap(14), chain(14), mixed(7, 7)):
            given = History(deeds)
            order, top = whole(given), whole(given)
            for size in (1, 10, 33, 10 ** 6):
                spans, many = self.spans(given, order, size)
                for state in ([], top[:1], top[:7], top):
                    lost = fewest_lost(given, order, size, [], state)
                    apart = next_apart(given, order, size, [], state)
                    if lost is None:
                        self.assertEqual((apart, possible(given, order, size, [], state)), ([], False))
                    else:
                        self.assertEqual(left_state(given, order, size, lost), state)
                        self.check_apart(given, order, size, [], state, apart)
                        self.assertEqual(len(lost), len(apart))
                self.assertEqual(always(given, order, size, list(range(many))), top)
                self.assertEqual(left_state(given, order, size, list(range(many))), [])
        given = History(heap(14))
        self.assertEqual(len(fewest_lost(given, whole(given), 1, [], [])), 14)
        self.assertEqual(fewest_lost(given, whole(given), 10 ** 6, [], []), [0])
        self.assertIsNone(fewest_lost(given, whole(given), 10 ** 6, [], [(1, "a")]))

    def test_edges(self):
        empty = History([])
        self.assertEqual(left_state(empty, [], 1, []), [])
        self.assertEqual(always(empty, [], 10 ** 18, []), [])
        self.assertEqual((possible(empty, [], 3, [], []), fewest_lost(empty, [], 3, [], []),
                          next_apart(empty, [], 3, [], [])), (True, [], []))
        self.refuse_each(InvalidList, [[0]], lambda value: left_state(empty, [], 1, value))
        given, order = History(heap(2)), [(2, "a"), (1, "a")]
        length = len(journal(given, order))
        half = length // 2
        # The line feed belongs to its line, so block by block each line is gone by itself.
        self.assertEqual([left_state(given, order, half, [block]) for block in (0, 1)], [[(1, "a")], [(2, "a")]])
        self.assertEqual(left_state(given, order, half - 1, [1]), [])
        self.assertEqual([left_state(given, order, length, lost) for lost in ([], [0])], [[(1, "a"), (2, "a")], []])
        self.refuse_each(InvalidList, [[1]], lambda value: left_state(given, order, length, value))
        self.assertEqual(left_state(given, order, length - 1, [1]), [(2, "a")])

    def test_errors(self):
        order, calls = [ANN, BOB, DROP], [left_state, always]
        calls += [lambda *told, call=call: call(*told, None) for call in (possible, fewest_lost, next_apart)]
        many = len(journal(plain(), order))
        for call in calls:
            self.refuse_each(InvalidNumber, NO_NUMBERS + [0, -1], lambda value: call(plain(), order, value, None))
            values = NO_LISTS + [[None], [True], ["0"], [-1], [many], [1, 1], [2, 1], [0, 1, 0], (0,), [0, False], [[]]]
            self.refuse_each(InvalidList, values, lambda value: call(plain(), order, 1, value))
        for call in (possible, fewest_lost, next_apart):
            self.refuse_each(InvalidState, no_states(), lambda value: call(plain(), order, 9, [0], value))

    def test_lists_stay(self):
        sure, state = [0], [ANN]
        order = [ANN, BOB, DROP]
        fewest_lost(plain(), order, 21, sure, state).append(1)
        next_apart(plain(), order, 21, sure, state).append(1)
        left_state(plain(), order, 21, sure).append(1)
        always(plain(), order, 21, sure).append(1)
        self.assertEqual((sure, state, order), ([0], [ANN], [ANN, BOB, DROP]))


if __name__ == "__main__":
    unittest.main()
