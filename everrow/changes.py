"""Changes of texts: what is kept and what comes, least ones, and the deeds that make them ([70] to [73])."""

from everrow.chart import seen_places
from everrow.checks import known_state
from everrow.demands import check_name, check_text, check_text_within, check_within
from everrow.errors import InvalidChange, InvalidItem, InvalidList
from everrow.history import chart_of
from everrow.kinds import is_sign, is_whole, is_whole_within
from everrow.making import maker_for

LONGEST_ROW = 400


class Change:
    """A change of all texts of one length: signs, and numbers of the signs that are kept; it never changes."""

    def __init__(self, size, row):
        check_row(size, row)
        self.size = size
        self._row = list(row)

    def __eq__(self, other):
        return isinstance(other, Change) and self.size == other.size and self._row == other._row

    def row(self):
        """The list of the signs and numbers."""
        return list(self._row)


def check_row(size, row):
    """Refuses what no change can be made of."""
    check_within(size, 0, LONGEST_ROW)
    if not isinstance(row, list) or len(row) > LONGEST_ROW:
        raise InvalidList(row)
    least = 0
    for item in row:
        if is_whole_within(item, least, size - 1):
            least = item + 1
        elif not is_sign(item):
            raise InvalidItem(item)


def row_of_change(change):
    """The row of a change."""
    if not isinstance(change, Change):
        raise InvalidChange(change)
    return change.row()


def kept_in(row):
    """The ascending list of the numbers in a row."""
    return [item for item in row if is_whole(item)]


def done(change, text):
    """The text that a change makes of a text."""
    row = row_of_change(change)
    check_text_within(text, change.size, change.size)
    return "".join([text[item] if is_whole(item) else item for item in row])


def joined(one, other):
    """The change that does what two changes do one behind the other."""
    first = row_of_change(one)
    second = row_of_change(other)
    if other.size != len(first):
        raise InvalidChange(other)
    return Change(one.size, [first[item] if is_whole(item) else item for item in second])


def undone(change, text):
    """The change that gives back a text that a change was done to."""
    row = row_of_change(change)
    check_text_within(text, change.size, change.size)
    # Where a sign that was kept stands now.
    stands = {item: number for number, item in enumerate(row) if is_whole(item)}
    return Change(len(row), [stands.get(at, sign) for at, sign in enumerate(text)])


def parting(one, other):
    """A text out of which two changes of one size make unlike texts, or None if there is none."""
    first = row_of_change(one)
    second = row_of_change(other)
    if one.size != other.size:
        raise InvalidChange(other)
    if first == second:
        return None
    unlike = [pair for pair in zip(first, second) if pair[0] != pair[1]]
    # If all is alike as far as the shorter row goes, any text shows that the other one is longer.
    return text_with_unlike(one.size, unlike[0] if unlike else ("a", "b"))


def text_with_unlike(size, pair):
    """A text of so many signs in which two unlike items of rows stand for unlike signs."""
    number, rival = pair if is_whole(pair[0]) else (pair[1], pair[0])
    if not is_whole(number):
        return "a" * size
    sign = "b" if rival == "a" else "a"
    filler = "b" if sign == "a" else "a"
    return filler * number + sign + filler * (size - number - 1)


def longest_chains(text, other):
    """For each gap of two texts how many signs can be kept at most of what lies behind both, as a list of lists."""
    rows = [[0] * (len(other) + 1) for _ in range(len(text) + 1)]
    for i in reversed(range(len(text))):
        for j in reversed(range(len(other))):
            if text[i] == other[j]:
                rows[i][j] = rows[i + 1][j + 1] + 1
            else:
                rows[i][j] = max(rows[i + 1][j], rows[i][j + 1])
    return rows


def least_change(text, other):
    """A change from one text to another one that keeps as many signs as possible."""
    check_text(text)
    check_text(other)
    rows = longest_chains(text, other)
    row = []
    at = 0
    for place, sign in enumerate(other):
        # A sign is kept if what is left keeps less without it; the first like one leaves the most behind it.
        if rows[at][place] > rows[at][place + 1]:
            at = text.index(sign, at) + 1
            row.append(at - 1)
        else:
            row.append(sign)
    return Change(len(text), row)


def shelves(text, other):
    """Lists, as many as signs can be kept, of all places with equal signs, no two of one list kept at once."""
    check_text(text)
    check_text(other)
    rows = longest_chains(text, other)
    found = [[] for _ in range(rows[0][0])]
    for i, sign in enumerate(text):
        for j, rival in enumerate(other):
            if sign == rival:
                # Of two that can be kept at once the one ahead has more to be kept from it on.
                found[rows[i + 1][j + 1]].append((i, j))
    return found


def between(history, one, other):
    """The change from the text of a state to that of another one that keeps the signs seen in both."""
    chart = chart_of(history)
    mask = known_state(chart, one)
    shown = seen_places(chart, known_state(chart, other))
    before = seen_places(chart, mask)
    numbers = {place: number for number, place in enumerate(before)}
    return Change(len(before), [numbers.get(place, chart.glyphs[place]) for place in shown])


def deeds_for(history, state, hand, change):
    """The list of deeds by which a hand makes a change in a state."""
    chart = chart_of(history)
    signs = [chart.signs[place] for place in seen_places(chart, known_state(chart, state))]
    check_name(hand)
    row = row_of_change(change)
    if change.size != len(signs):
        raise InvalidChange(change)
    maker = maker_for(chart, hand)
    make_change(maker, signs, row)
    return maker.made


def make_change(maker, signs, row):
    """Makes the deeds by which the row of a change comes of some signs that are seen."""
    kept = kept_in(row)
    maker.drop([sign for number, sign in enumerate(signs) if number not in kept])
    for _, gap, text in stretches(row, len(signs)):
        maker.put(signs[gap - 1] if gap else None, text)


def stretches(row, size):
    """The longest stretches of signs in a row: tuples of the numbers just ahead and just behind, and the signs."""
    found = []
    text, lower = "", -1
    for item in row + [size]:
        if not is_whole(item):
            text += item
        else:
            if text:
                found.append((lower, item, text))
            text, lower = "", item
    return found
