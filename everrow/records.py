"""Deeds as lines of a journal, and back ([110], [112], [115])."""

from everrow.history import MOST_DEEDS, can_follow
from everrow.kinds import is_deed, put_size

LONGEST_NUMBER = 19
DIGITS = "0123456789"
REMAINDER = 97
NO_ANCHOR = "-"
LINE_FEED = "\n"


def record_of(deed):
    """The line of a deed."""
    body = " ".join(words_of(deed))
    check = sum([place * ord(sign) for place, sign in enumerate(body, start=1)]) % REMAINDER
    return f"{len(body)}:{body};{check:02d}"


def words_of(deed):
    """The words of the body of a deed."""
    words = [deed[0]] + name_words(deed[1])
    if deed[0] == "drop":
        return words + [word for sign in deed[2] for word in name_words(sign)]
    anchor = [NO_ANCHOR] if deed[2] is None else name_words(deed[2])
    return words + anchor + [deed[3].replace(" ", "_").replace("\n", "/")]


def name_words(name):
    """The words of the name of a deed or a sign."""
    return [str(part) for part in name]


def deed_in(value):
    """The deed whose line a value is, or None."""
    if not isinstance(value, str):
        return None
    body = value.partition(":")[2].rpartition(";")[0]
    deed = deed_from(body.split(" "))
    # Whatever may have been read wrongly is written otherwise.
    return deed if is_deed(deed) and record_of(deed) == value else None


def deed_from(words):
    """What may be the deed of some words; what is wrong with it is left as it is, or None."""
    if len(words) < 5:
        return None
    name = name_from(words[1:3])
    if words[0] == "drop":
        return ("drop", name, [name_from(words[at:at + 3]) for at in range(3, len(words), 3)])
    anchor = None if words[3] == NO_ANCHOR else name_from(words[3:6])
    return (words[0], name, anchor, words[-1].replace("_", " ").replace("/", "\n"))


def name_from(words):
    """What may be the name of some words: a hand, and numbers."""
    return tuple([word if at == 1 else number_from(word) for at, word in enumerate(words)])


def number_from(word):
    """The number that a word is, or None."""
    if not 1 <= len(word) <= LONGEST_NUMBER or not all([digit in DIGITS for digit in word]):
        return None
    return int(word)


def leading_deeds(text, is_in_order):
    """The deeds of the lines, each with a line feed, that a string begins with, as far as they are a history.

    Each of them names signs of those ahead of it alone; if it is asked for, they are in the order of their names.
    """
    deeds = []
    sizes = {}
    last = (0, "")
    for line in text.split(LINE_FEED)[:-1]:
        deed = deed_in(line)
        if deed is None or len(deeds) == MOST_DEEDS or not can_follow(deed, sizes):
            break
        if is_in_order and deed[1] < last:
            break
        last = deed[1]
        sizes[last] = put_size(deed)
        deeds.append(deed)
    return deeds


def text_of_deeds(deeds):
    """The lines of deeds, each followed by a line feed."""
    return "".join([record_of(deed) + LINE_FEED for deed in deeds])
