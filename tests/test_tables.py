"""[85] to [87], [89]: tables."""

import unittest
from random import Random

from everrow.errors import InvalidNumber, InvalidTable, InvalidText
from everrow.tables import (
    count_after, fate, length_after, presence, present, sign_after, turned, worst_sign,
)
from tests.cases import Case
from tests.makers import NO_LISTS, NO_NUMBERS, NO_TEXTS

FAR = 10 ** 18
NO_TABLES = NO_LISTS + [
    [], [("a", "b")] * 2, [("a", "b"), ("b", ""), ("a", "")], [(sign, "") for sign in "abcdefghijk"], [("a",)],
    [("a", "b", "c")], [["a", "b"]], [("", "b")], [("ab", "b")], [("A", "b")], [("a", "bbbbb")], [("a", "B")],
    [("a", None)], [(None, "a")], [None], [True], [("a", "b"), 0], (("a", "b"),), [("a", ["b"])], [(["a"], "b")],
    [("~", "a")], [{}],
]
# Tables that end, ring, creep and burst.
ENDS = [("a", "bb"), ("b", "c "), ("c", "")]
RING = [("a", "bd"), ("b", "c"), ("c", "a"), ("d", "")]
CREEPS = [("a", "ab"), ("b", "cb"), ("c", "dd"), ("d", "e"), ("e", "d")]
BURSTS = [("a", "bb"), ("b", "ac")]


def round_of(table, text):
    rules = dict(table)
    return "".join(rules.get(sign, sign) for sign in text)


def rounds_of(table, text, most, longest=4000):
    """The texts behind each number of rounds up to one, as long as they are not too long."""
    found = [text]
    while len(found) <= most and len(found[-1]) <= longest:
        found.append(round_of(table, found[-1]))
    return found


def random_table(chance, most=6):
    """A table of at most so many rows, with few signs, so that all fates come up, and a text."""
    many = chance.randint(1, most)
    letters = "abcdefg\n hij"[:many + 1]
    table = []
    for sign in chance.sample(letters, many):
        size = chance.choice([0, 1, 1, 1, 1, 2, 2, 3])
        table.append((sign, "".join(chance.choice(letters) for _ in range(size))))
    return table, "".join(chance.choice(letters + "z") for _ in range(chance.randint(0, 4)))


class RoundsTest(Case):
    """[85], [86]"""

    def test_turned(self):
        for seed in range(300):
            table, text = random_table(Random(seed), 10 if seed % 5 == 0 else 6)
            self.assertEqual(turned(table, text), round_of(table, text))

    def test_edges(self):
        self.assertEqual(turned([("a", "")], "aaa"), "")
        self.assertEqual(turned([("a", "b"), ("b", "a")], "ab"), "ba")
        self.assertEqual(turned([("\n", " \na "), (" ", "\n")], "x\n y"), "x \na \ny")
        self.assertEqual(turned([(sign, "abcd") for sign in "abcdefghij"], "j" * 200), "abcd" * 200)
        self.assertEqual(turned([("a", "b")], ""), "")

    def test_all(self):
        for seed in range(500):
            chance = Random(seed)
            table, text = random_table(chance)
            for rounds, row in enumerate(rounds_of(table, text, 16, 400)):
                self.assertEqual(length_after(table, text, rounds), len(row))
                for sign in "ab\nz":
                    self.assertEqual(count_after(table, text, rounds, sign), row.count(sign))
                places = range(len(row)) if rounds < 6 else chance.sample(range(len(row)), min(len(row), 6))
                for place in places:
                    self.assertEqual(sign_after(table, text, rounds, place), row[place])

    def test_many_rounds(self):
        """Against going on and on: texts that creep, of rings with signs on both sides."""
        for table, text, most in ((CREEPS, "aza", 40), (RING, "abc", 60), (ENDS, "aab", 20), (TWO_SIDES, "pq", 40),
                                  (TWO_SIDES, "rpz", 40)):
            rows = rounds_of(table, text, most, 10 ** 5)
            for rounds in (most // 3, most - 1, most):
                row = rows[rounds]
                self.assertEqual(length_after(table, text, rounds), len(row))
                for place in range(0, len(row), max(1, len(row) // 150)):
                    self.assertEqual(sign_after(table, text, rounds, place), row[place])

    def test_far(self):
        self.assertEqual(length_after([("a", "ab")], "a", FAR), FAR + 1)
        self.assertEqual(length_after([("a", "ab"), ("b", "cb")], "a", FAR), 1 + FAR + FAR * (FAR - 1) // 2)
        self.assertEqual(count_after([("a", "ab"), ("b", "cb")], "a", FAR, "c"), FAR * (FAR - 1) // 2)
        self.assertEqual(count_after([("a", "bab")], "zaaz", FAR, "b"), 4 * FAR)
        self.assertEqual(count_after([("a", "bab")], "zaaz", FAR, "z"), 2)
        self.assertEqual(count_after([("a", "b"), ("b", "c"), ("c", "a")], "a", FAR, "b"), 1)
        self.assertEqual(count_after([("a", "")], "zz", FAR, "a"), 0)
        for place, sign in ((0, "b"), (FAR - 1, "b"), (FAR, "a"), (FAR + 1, "c"), (2 * FAR, "c")):
            self.assertEqual(sign_after([("a", "bac")], "a", FAR, place), sign)
        # Around the ring of three every third round leaves an "x": the one left last stands next to the ring's sign.
        table = [("a", "xb"), ("b", "yc"), ("c", "za"), ("x", "y"), ("y", "z"), ("z", "x")]
        for rounds in (FAR, FAR - 1, FAR - 2):
            row = rounds_of(table, "a", 30 + rounds % 3)[-1]
            self.assertEqual((30 + rounds % 3) % 3, rounds % 3)
            for back in range(1, 12):
                self.assertEqual(sign_after(table, "a", rounds, rounds + 1 - back), row[-back])
                self.assertEqual(sign_after(table, "a", rounds, back - 1), row[back - 1])
        self.refuse_each(InvalidNumber, [FAR + 1], lambda value: sign_after([("a", "ba")], "a", FAR, value))

    def test_the_place_far_within_a_creeping_text(self):
        # Behind r rounds: "a", and behind it what 0, 1 .. r - 1 rounds make of a "b".
        table = [("a", "ab"), ("b", "cb")]
        length = length_after(table, "a", FAR)
        for behind in (0, 1, 2, 3, 10 ** 9, FAR - 1):
            # The "b" that came first is the last sign, with FAR - 1 signs ahead; each later one has one less.
            ahead = sum_of(FAR - behind + 1, FAR + 1)
            self.assertEqual(sign_after(table, "a", FAR, length - 1 - ahead), "b")
            if behind < FAR - 1:
                self.assertEqual(sign_after(table, "a", FAR, length - 2 - ahead), "c")

    def test_bursting(self):
        for table, text in ((BURSTS, "ab"), ([("a", "aaaa")], "z" + "a" * 9 + "z"), (BURSTS + [("z", "az")], "zc")):
            rows = rounds_of(table, text, 9)
            for rounds, row in enumerate(rows):
                self.assertEqual(length_after(table, text, rounds), len(row))
                for place in range(0, len(row), 1 + len(row) // 60):
                    self.assertEqual(sign_after(table, text, rounds, place), row[place])
        self.assertEqual(length_after([("a", "aaaa")], "a" * 200, 300), 200 * 4 ** 300)
        self.assertEqual(sign_after([("a", "baac")], "a", 300, 0), "b")
        long = length_after([("a", "baac")], "a", 300)
        self.assertEqual(count_after([("a", "baac")], "a", 300, "a"), 2 ** 300)
        self.assertEqual(sign_after([("a", "baac")], "a", 300, long - 1), "c")
        self.assertEqual(sign_after([("a", "baac")], "a", 300, 300), "a")
        self.assertEqual(sign_after([("a", "baac")], "a", 300, 299), "b")
        self.refuse_each(InvalidNumber, [long], lambda value: sign_after([("a", "baac")], "a", 300, value))

    def test_a_sign_that_bursts_but_does_not_come(self):
        table = [("a", "ab"), ("b", "b"), ("c", "cc"), ("d", "dddd")]
        self.assertEqual(length_after(table, "a", FAR), FAR + 1)
        self.assertEqual(sign_after(table, "aza", FAR, FAR + 1), "z")

    def test_no_rounds_and_no_signs(self):
        self.assertEqual(length_after(ENDS, "", FAR), 0)
        self.assertEqual(length_after(ENDS, "aab", FAR), 5)
        self.assertEqual(length_after(ENDS, "aab", 0), 3)
        self.assertEqual(count_after(ENDS, "aab", 0, "a"), 2)
        self.assertEqual([sign_after(ENDS, "aab", 0, place) for place in range(3)], ["a", "a", "b"])
        self.refuse_each(InvalidNumber, [0, 1], lambda value: sign_after(ENDS, "", FAR, value))
        self.assertEqual(length_after([("a", "")], "a" * 200, 1), 0)

    def test_ten_rows(self):
        table = [(sign, more + sign) for sign, more in zip("abcdefghij", "bcdefghijk")]
        length = length_after(table, "a", FAR)
        self.assertEqual(length, sum(choose(FAR, many) for many in range(11)))
        self.assertEqual(sign_after(table, "a", FAR, length - 1), "a")
        self.assertEqual(sign_after(table, "a", FAR, length - 2), "b")
        self.assertEqual(sign_after(table, "a", FAR, 0), "k")
        self.assertEqual(count_after(table, "a", FAR, "k"), choose(FAR, 10))

    def test_errors(self):
        self.refuse_each(InvalidTable, NO_TABLES, lambda value: turned(value, None))
        self.refuse_each(InvalidText, NO_TEXTS, lambda value: turned(ENDS, value))
        calls = [length_after, lambda *told: count_after(*told, None), lambda *told: sign_after(*told, None), present]
        for call in calls:
            self.refuse_each(InvalidTable, NO_TABLES, lambda value: call(value, None, None))
            self.refuse_each(InvalidText, NO_TEXTS, lambda value: call(ENDS, value, None))
            self.refuse_each(InvalidNumber, NO_NUMBERS + [-1], lambda value: call(ENDS, "a", value))
        values = NO_TEXTS + ["", "ab"]
        self.refuse_each(InvalidText, values, lambda value: count_after(ENDS, "a", 1, value))
        self.refuse_each(InvalidNumber, NO_NUMBERS + [-1, 2], lambda value: sign_after(ENDS, "a", 1, value))

    def test_lists_stay(self):
        table = list(CREEPS)
        for call in (lambda: turned(table, "ab"), lambda: length_after(table, "ab", 9), lambda: fate(table, "ab"),
                     lambda: sign_after(table, "ab", 9, 9), lambda: worst_sign(table), lambda: presence(table, "ab"),
                     lambda: present(table, "ab", 9), lambda: count_after(table, "ab", 9, "b")):
            call()
            self.assertEqual(table, CREEPS)


# Rings of three and two with what they leave on both sides, some of it creeping itself.
TWO_SIDES = [("p", "xqyy"), ("q", "yr"), ("r", "pzx"), ("x", "yx"), ("y", "z"), ("z", "y")]


def choose(many, few):
    """How many ways there are to choose so few of so many."""
    found = 1
    for at in range(few):
        found = found * (many - at) // (at + 1)
    return found


def sum_of(first, end):
    """The sum of the numbers from one to ahead of another one."""
    return (first + end - 1) * (end - first) // 2


def naive_fate(table, text):
    """What is seen of a text by going on: a text that comes again, or lengths that get greater and greater."""
    rows = [text]
    while len(rows) < 60 and len(rows[-1]) < 10 ** 4:
        text = round_of(table, rows[-1])
        if text in rows:
            lead, period = rows.index(text), len(rows) - rows.index(text)
            return ("ends", lead) if period == 1 else ("ring", lead, period)
        rows.append(text)
    return None


class FateTest(Case):
    """[87]"""

    def test_all(self):
        words = {}
        for seed in range(1000):
            table, text = random_table(Random(seed))
            told, seen = fate(table, text), naive_fate(table, text)
            words[told[0]] = words.get(told[0], 0) + 1
            if told[0] in ("ends", "ring"):
                self.assertEqual(told, seen)
            else:
                self.assertIsNone(seen)
                self.check_growth(table, text, told)
        self.assertTrue(min(words[word] for word in ("ends", "ring", "creeps", "bursts")) > 30, words)

    def check_growth(self, table, text, told):
        """By the lengths alone: behind ten times as many rounds a creeping text is 10 ** degree times as long."""
        if told[0] == "creeps":
            near, far = [length_after(table, text, 60 * 10 ** size) for size in (7, 8)]
            self.assertTrue(10 ** told[1] * 9 <= 10 * far // near <= 10 ** told[1] * 11)
        else:
            near, far = [length_after(table, text, rounds) for rounds in (120, 240)]
            # With six rows, a text that bursts is doubled at least every six rounds, behind some rounds.
            self.assertGreater(far // near, 2 ** 15)

    def test_edges(self):
        self.assertEqual(fate(ENDS, ""), ("ends", 0))
        self.assertEqual(fate([("a", "")], "zz"), ("ends", 0))
        self.assertEqual(fate([("a", "")], "a"), ("ends", 1))
        self.assertEqual(fate([("a", "a")], "a"), ("ends", 0))
        self.assertEqual(fate(ENDS, "a"), ("ends", 3))
        # What comes goes again, so nothing creeps.
        self.assertEqual(fate([("a", "ab"), ("b", "c"), ("c", "")], "a"), ("ends", 2))
        self.assertEqual(fate(RING, "a"), ("ring", 0, 3))
        self.assertEqual(fate(RING, "ad"), ("ring", 1, 3))
        self.assertEqual(fate([("a", "b"), ("b", "a")], "ab"), ("ring", 0, 2))
        self.assertEqual(fate([("a", "b"), ("b", "a"), ("c", "d"), ("d", "e"), ("e", "c")], "ac"), ("ring", 0, 6))
        self.assertEqual(fate([("a", "b"), ("b", "a"), ("c", "d"), ("d", "a")], "c" * 20), ("ring", 2, 2))
        # Equal signs in a ring: the text comes again sooner.
        self.assertEqual(fate([("a", "b"), ("b", "a")], "abab"), ("ring", 0, 2))
        self.assertEqual(fate([("a", "ab")], "a"), ("creeps", 1))
        self.assertEqual(fate([("a", "ab"), ("b", "bc"), ("c", "cd"), ("d", "de"), ("e", "ef"), ("f", "fg")], "a"),
                         ("creeps", 6))
        self.assertEqual(fate([("a", "ab"), ("b", "bc"), ("c", "cd"), ("d", "")], "z" * 19 + "a"), ("creeps", 2))
        self.assertEqual(fate(CREEPS, "a"), ("creeps", 2))
        self.assertEqual(fate(CREEPS, "c"), ("ring", 1, 2))
        self.assertEqual(fate(BURSTS, "b"), ("bursts",))
        self.assertEqual(fate(BURSTS, "c"), ("ends", 0))
        self.assertEqual(fate([("a", "aa")], "z" * 19 + "a"), ("bursts",))
        # Two rings, one in the other, do not burst: each sign of a ring is there but once in its turn.
        self.assertEqual(fate([("a", "bc"), ("b", "a"), ("c", "dc"), ("d", "d")], "a"), ("creeps", 2))
        self.assertEqual(fate([("a", "bcb"), ("b", "c"), ("c", "")], "a" * 20), ("ends", 3))

    def test_a_text_is_as_bad_as_the_worst_of_its_signs(self):
        for seed in range(600):
            table, text = random_table(Random(seed))
            fates = [fate(table, sign) for sign in text]
            degrees = [told[1] for told in fates if told[0] == "creeps"]
            told = fate(table, text)
            if ("bursts",) in fates:
                self.assertEqual(told, ("bursts",))
            elif degrees:
                self.assertEqual(told, ("creeps", max(degrees)))
            else:
                self.assertIn(told[0], ("ends", "ring"))
                # Rings of at most six signs come around in 60 rounds.
                same = 20 + (FAR - 20) % 60
                self.assertEqual(length_after(table, text, FAR), length_after(table, text, same))

    def test_worst_sign(self):
        order = ["ends", "ring", "creeps", "bursts"]
        for seed in range(600):
            table, _ = random_table(Random(seed))
            fates = [fate(table, sign) for sign, _ in table]
            worst = max((order.index(told[0]), told[1] if told[0] == "creeps" else 0) for told in fates)
            first = next(sign for (sign, _), told in zip(table, fates)
                         if (order.index(told[0]), told[1] if told[0] == "creeps" else 0) == worst)
            self.assertEqual(worst_sign(table), first)

    def test_worst_sign_edges(self):
        self.assertEqual(worst_sign([("a", "")]), "a")
        # Of signs that end, and of those in rings, all are equally bad, however long it takes.
        self.assertEqual(worst_sign([("c", ""), ("a", "bb"), ("b", "c")]), "c")
        self.assertEqual(worst_sign([("z", ""), ("d", "e"), ("e", "d"), ("a", "b"), ("b", "c"), ("c", "a")]), "d")
        self.assertEqual(worst_sign([("b", "bc"), ("a", "ab")]), "a")
        self.assertEqual(worst_sign([("a", "b"), ("b", "bb"), ("c", "cc")]), "a")
        self.assertEqual(worst_sign([("\n", "b"), ("b", "b ")]), "\n")

    def test_errors(self):
        self.refuse_each(InvalidTable, NO_TABLES, lambda value: fate(value, None))
        self.refuse_each(InvalidText, NO_TEXTS, lambda value: fate(ENDS, value))
        self.refuse_each(InvalidTable, NO_TABLES, worst_sign)


class PresenceTest(Case):
    """[89]"""

    def test_all(self):
        found = set()
        for seed in range(800):
            table, text = random_table(Random(seed), 10 if seed % 3 == 0 else 6)
            signs, rows = set(text), []
            for _ in range(160):
                rows.append("".join(sorted(signs)))
                signs = set(round_of(table, rows[-1]))
            for rounds in (0, 1, 2, 3, 17, 159):
                self.assertEqual(present(table, text, rounds), rows[rounds])
            lead, period = presence(table, text)
            found.add((min(lead, 4), min(period, 4)))
            self.check_least(rows, lead, period)
            self.assertEqual(present(table, text, FAR), rows[lead + (FAR - lead) % period])
        self.assertGreater(len(found), 8)

    def check_least(self, rows, lead, period):
        self.assertEqual(rows[lead:lead + 60], rows[lead + period:lead + period + 60])
        for less in range(1, period):
            self.assertNotEqual(rows[lead:lead + 60], rows[lead + less:lead + less + 60])
        if lead > 0:
            self.assertNotEqual(rows[lead - 1], rows[lead + period - 1])

    def test_edges(self):
        self.assertEqual(present(ENDS, "", FAR), "")
        self.assertEqual(present([("a", "")], "a\n zb", 0), "\n abz")
        self.assertEqual(present([("a", "")], "a\n zb", 1), "\n bz")
        self.assertEqual(presence([("a", "")], "z"), (0, 1))
        self.assertEqual(presence([("a", "")], "a"), (1, 1))
        # Texts that burst have the same signs again and again, too.
        self.assertEqual(presence([("a", "bb"), ("b", "aac")], "a"), (2, 2))
        self.assertEqual(present([("a", "bb"), ("b", "aac")], "a", FAR), "ac")
        rings = [("a", "b"), ("b", "a"), ("c", "d"), ("d", "e"), ("e", "c"), ("f", "g"), ("g", "h"), ("h", "i"),
                 ("i", "j"), ("j", "f")]
        self.assertEqual(presence(rings, "acf"), (0, 30))
        self.assertEqual(present(rings, "acf", FAR), "".join(sorted("ab"[FAR % 2] + "cde"[FAR % 3] + "fghij"[FAR % 5])))

    def test_errors(self):
        self.refuse_each(InvalidTable, NO_TABLES, lambda value: presence(value, None))
        self.refuse_each(InvalidText, NO_TEXTS, lambda value: presence(ENDS, value))


if __name__ == "__main__":
    unittest.main()
