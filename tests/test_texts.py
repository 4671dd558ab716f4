"""[115]: histories as texts."""

import unittest
from itertools import permutations

from everrow.errors import InvalidHistory, InvalidText
from everrow.history import History, whole
from everrow.journal import journal, line_of, recovered
from everrow.texts import read_history, write_history, wrong_line
from tests.cases import Case
from tests.makers import NO_HISTORIES, PLAIN, heap, mixed, plain, random_deeds
from tests.test_journal import NO_STRINGS, naive_line

LINES = [line_of(deed) + "\n" for deed in PLAIN]


def texts_of(lines):
    """All texts of some lines, each once or never, in all orders."""
    return ["".join(row) for size in range(len(lines) + 1) for row in permutations(lines, size)]


class TextsTest(Case):

    def test_written_and_read(self):
        for seed in range(40):
            deeds = random_deeds(seed, seed % 9, letters="ab \n")
            given = History(deeds)
            text = write_history(given)
            self.assertEqual(text, "".join(naive_line(deed) + "\n" for deed in given.deeds()))
            self.assertEqual(text, journal(given, whole(given)))
            self.assertEqual(read_history(text), given)
            self.assertIsNone(wrong_line(text))

    def test_edges(self):
        self.assertEqual(write_history(History([])), "")
        self.assertEqual(read_history(""), History([]))
        self.assertIsNone(wrong_line(""))
        given = History(mixed(12, 12))
        self.assertEqual(read_history(write_history(given)), given)
        far = History([("put", (10 ** 17 + k, "abcdefgh"), None, "\n \n \n ") for k in range(24)])
        self.assertEqual(read_history(write_history(far)), far)

    def test_wrong_lines(self):
        for text in texts_of(LINES + [line_of(("put", (2, "cy"), None, "z")) + "\n"]):
            lines = text.split("\n")[:-1]
            wanted = next((at for at in range(1, len(lines) + 1) if not self.begins_one(lines[:at])), None)
            self.assertEqual(wrong_line(text), wanted)
            if wanted is None:
                self.assertEqual(write_history(read_history(text)), text)
            else:
                self.refuse_each(InvalidText, [text], read_history)

    def begins_one(self, lines):
        """Whether lines are those of the deeds of a history in the order of their names."""
        text = "".join(line + "\n" for line in lines)
        made, many = recovered(text)
        return many == len(text) and [line_of(deed) for deed in made.deeds()] == lines

    def test_cut_and_lengthened(self):
        text = write_history(plain())
        ends = [len("".join(LINES[:many])) for many in range(4)]
        for end in range(len(text)):
            many = len([one for one in ends if one <= end]) - 1
            wanted = None if end in ends else many + 1
            self.assertEqual(wrong_line(text[:end]), wanted)
            # A sign taken out or changed within a line makes this the first wrong one.
            self.assertEqual(wrong_line(text[:end] + "~" + text[end + 1:]), many + 1)
            self.assertEqual(wrong_line(text[:end] + text[end + 1:]), many + 1)
        for more in ("x", "\n", " ", LINES[0], LINES[2]):
            self.assertEqual(wrong_line(text + more), 4)
            self.refuse_each(InvalidText, [text + more], read_history)

    def test_twice(self):
        self.assertEqual(wrong_line(LINES[0] * 2), 2)
        self.assertEqual(wrong_line("\n" + LINES[0]), 1)
        self.assertEqual(wrong_line(LINES[0] + "\n" + LINES[1]), 2)
        self.assertEqual(wrong_line(LINES[1]), 1)

    def test_a_line_too_many(self):
        text = "".join(line_of(deed) + "\n" for deed in heap(25))
        self.assertEqual(wrong_line(text), 25)
        self.refuse_each(InvalidText, [text], read_history)
        self.assertIsNone(wrong_line("".join(line_of(deed) + "\n" for deed in heap(24))))

    def test_errors(self):
        self.refuse_each(InvalidHistory, NO_HISTORIES, write_history)
        self.refuse_each(InvalidText, NO_STRINGS, wrong_line)
        self.refuse_each(InvalidText, NO_STRINGS, read_history)


if __name__ == "__main__":
    unittest.main()
