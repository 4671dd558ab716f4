"""Terms of texts that stay in changes, and shorts that are typed for longs ([180] to [182])."""

from everrow.automata import LINE_END
from everrow.changes import Change, done, longest_chains, row_of_change
from everrow.demands import check_text
from everrow.errors import InvalidChange, InvalidItem, InvalidList
from everrow.kinds import is_letter, is_text_within, is_whole, is_whole_within
from everrow.readings import least_double

MOST_SHORTS = 6
LONGEST_SHORT = 4
LONGEST_LONG = 6


def terms_of(text):
    """The list of the places and the letters of the terms of a text."""
    found = []
    begin = 0
    # The end of the text parts terms as a line end does.
    for place, sign in enumerate(text + LINE_END):
        if not is_letter(sign):
            if begin < place:
                found.append((begin, text[begin:place]))
            begin = place + 1
    return found


def terms(text):
    """The list, from the left, of the places and the letters of the terms of a text."""
    check_text(text)
    return terms_of(text)


def staying(text, change):
    """The list, from the left, of the places in both texts of each term of a text that stays by a change."""
    check_text(text)
    row = row_of_change(change)
    if change.size != len(text):
        raise InvalidChange(change)
    # Where a sign that is kept stands now, and the terms that begin there.
    stands = {item: place for place, item in enumerate(row) if is_whole(item)}
    after = {place: term for place, term in terms_of(done(change, text))}
    found = []
    for begin, term in terms_of(text):
        place = stands.get(begin, -1)
        kept = list(range(begin, begin + len(term)))
        if after.get(place) == term and row[place:place + len(term)] == kept:
            found.append((begin, place))
    return found


def keeping(text, other):
    """A change from one text to another one by which as many terms stay as by any."""
    check_text(text)
    check_text(other)
    row = list(other)
    for begin, place, size in common_terms(terms_of(text), terms_of(other)):
        row[place:place + size] = list(range(begin, begin + size))
    return Change(len(text), row)


def common_terms(before, after):
    """The places in both texts, and the lengths, of a longest row of terms that both have in this order."""
    rows = longest_chains([term for _, term in before], [term for _, term in after])
    found = []
    i, j = 0, 0
    while i < len(before) and j < len(after):
        if before[i][1] == after[j][1]:
            found.append((before[i][0], after[j][0], len(before[i][1])))
            i, j = i + 1, j + 1
        elif rows[i + 1][j] >= rows[i][j + 1]:
            i += 1
        else:
            j += 1
    return found


def is_short(value):
    """Whether a value is a tuple of a short and its long."""
    if not isinstance(value, tuple) or len(value) != 2 or not is_text_within(value[0], 1, LONGEST_SHORT):
        return False
    return all([is_letter(sign) for sign in value[0]]) and is_text_within(value[1], 1, LONGEST_LONG)


def check_shorts(shorts):
    """Refuses what are no shorts."""
    if not isinstance(shorts, list) or not 1 <= len(shorts) <= MOST_SHORTS:
        raise InvalidList(shorts)
    taken = {}
    for item in shorts:
        if not is_short(item) or item[0] in taken:
            raise InvalidItem(item)
        taken[item[0]] = True


def check_row(shorts, row):
    """Refuses what is no row of numbers of shorts."""
    if not isinstance(row, list):
        raise InvalidList(row)
    for number in row:
        if not is_whole_within(number, 0, len(shorts) - 1):
            raise InvalidItem(number)


def typed(shorts, row):
    """The shorts of a row, one right behind the other."""
    check_shorts(shorts)
    check_row(shorts, row)
    return "".join([shorts[number][0] for number in row])


def meant(shorts, row):
    """The longs of a row, one right behind the other."""
    check_shorts(shorts)
    check_row(shorts, row)
    return "".join([shorts[number][1] for number in row])


def two_rows(shorts):
    """The least text that is typed by two unlike rows, and two such rows; None if there is none."""
    return double_reading(shorts, True)


def two_meanings(shorts):
    """The least text that is typed by two rows that mean unlike texts, and two such rows; None if there is none."""
    return double_reading(shorts, False)


def double_reading(shorts, is_apart):
    """The same, for all unlike rows or just for those that mean unlike texts."""
    check_shorts(shorts)
    return least_double([short for short, _ in shorts], [text for _, text in shorts], is_apart)
