"""Marks: their places in all states, where they meet and part, selections and folds of them ([60] to [64])."""

from everrow.chart import closed_up, is_seen, least_of, names_in, names_or_none, seen_places, whole_mask
from everrow.checks import known_items, known_state, known_states, place_if_sign
from everrow.errors import InvalidItem, InvalidList, InvalidMark
from everrow.hiding import greatest_hiding
from everrow.history import chart_of

MOST_STATES = 20
FOLD_SIGN = "~"


def rank_if_mark(chart, value):
    """The number of the mark that a value is in the one order of all marks, or None."""
    if value == ("first",):
        return 0
    if value == ("last",):
        return 2 * len(chart.signs) + 1
    if not isinstance(value, tuple) or len(value) != 2 or value[0] not in ("ahead", "behind"):
        return None
    place = place_if_sign(chart, value[1])
    if place is None:
        return None
    return 2 * place + (1 if value[0] == "ahead" else 2)


def mark_of_rank(chart, rank):
    """The mark with a number in the one order."""
    if rank == 0:
        return ("first",)
    if rank > 2 * len(chart.signs):
        return ("last",)
    return ("behind" if rank % 2 == 0 else "ahead", chart.signs[(rank - 1) // 2])


def known_mark(chart, mark):
    """The number of a mark in the one order."""
    rank = rank_if_mark(chart, mark)
    if rank is None:
        raise InvalidMark(mark)
    return rank


def known_marks(chart, marks):
    """The numbers of the marks of a list in the one order."""
    return known_items(chart, marks, rank_if_mark)


def gap_of(rank):
    """How many signs of the ever-row come ahead of a mark."""
    return rank // 2


def seen_ahead(chart, mask, gap):
    """How many of so many first signs of the ever-row are seen in a state."""
    return len([place for place in range(gap) if is_seen(chart, mask, place)])


def place_of(history, state, mark):
    """How many signs are seen in a state ahead of a mark."""
    chart = chart_of(history)
    mask = known_state(chart, state)
    return seen_ahead(chart, mask, gap_of(known_mark(chart, mark)))


def is_lost(history, state, mark):
    """Whether a mark is one with a sign that is not seen in a state."""
    chart = chart_of(history)
    mask = known_state(chart, state)
    known_mark(chart, mark)
    return len(mark) == 2 and not is_seen(chart, mask, chart.places[mark[1]])


def marks_in_order(history, marks):
    """The list of marks in the one order."""
    ranks = known_marks(chart_of(history), marks)
    in_order = sorted([(rank, number) for number, rank in enumerate(ranks)])
    return [marks[number] for _, number in in_order]


def moves(history, one, other, marks):
    """For each mark how much its place in one state is greater than in another one."""
    chart = chart_of(history)
    first = known_state(chart, one)
    second = known_state(chart, other)
    gaps = [gap_of(rank) for rank in known_marks(chart, marks)]
    return [seen_ahead(chart, second, gap) - seen_ahead(chart, first, gap) for gap in gaps]


def places_between_marks(chart, one, other):
    """The places of the signs of the ever-row that lie between two marks."""
    first = gap_of(known_mark(chart, one))
    second = gap_of(known_mark(chart, other))
    return list(range(min(first, second), max(first, second)))


def meeting(history, one, other):
    """The state with all deeds of each other one in which two marks have one place."""
    chart = chart_of(history)
    return names_in(chart, greatest_hiding(chart, whole_mask(chart), places_between_marks(chart, one, other)))


def apart(history, one, other):
    """A state with as few deeds as possible in which two marks have unlike places, or None."""
    chart = chart_of(history)
    # A put with what it rests on is a state without drops, so all of its signs are seen there.
    masks = [closed_up(chart, 1 << chart.owners[place]) for place in places_between_marks(chart, one, other)]
    return names_or_none(chart, least_of(masks))


def strays(history, states, mark):
    """The number of the first state at which a place carried along is not that of its mark, or None."""
    chart = chart_of(history)
    if not isinstance(states, list) or not 1 <= len(states) <= MOST_STATES:
        raise InvalidList(states)
    masks = known_states(chart, states)
    gap = gap_of(known_mark(chart, mark))
    is_least = mark[0] in ("behind", "first")
    for number in range(1, len(masks)):
        # Up to here no place has strayed, so the one carried along is that of the mark.
        place = seen_ahead(chart, masks[number - 1], gap)
        fitting = carried_places(chart, masks[number - 1], masks[number], place)
        if fitting[0 if is_least else -1] != seen_ahead(chart, masks[number], gap):
            return number
    return None


def carried_places(chart, one, other, place):
    """The ascending list of the places in the other state ahead of just as many of the signs seen in both.

    Counted are those that come ahead of a place: the others are those that it is ahead of.
    """
    before = seen_places(chart, one)
    after = seen_places(chart, other)
    many = len([sign for sign in before[:place] if sign in after])
    fitting = [0] if many == 0 else []
    for number, sign in enumerate(after):
        if sign in before:
            many -= 1
        if many == 0:
            fitting.append(number + 1)
    return fitting


def ranks_if_selection(chart, value):
    """The numbers, in the one order, of the two marks of the selection that a value is, or None."""
    if not isinstance(value, tuple) or len(value) != 2:
        return None
    first = rank_if_mark(chart, value[0])
    second = rank_if_mark(chart, value[1])
    if first is None or second is None or second < first:
        return None
    return (first, second)


def gaps_if_selection(chart, value):
    """How many signs of the ever-row come ahead of the two marks of the selection that a value is, or None."""
    ranks = ranks_if_selection(chart, value)
    return None if ranks is None else (gap_of(ranks[0]), gap_of(ranks[1]))


def known_selection(chart, selection):
    """How many signs of the ever-row come ahead of the two marks of a selection."""
    gaps = gaps_if_selection(chart, selection)
    if gaps is None:
        raise InvalidMark(selection)
    return gaps


def picked(history, state, selection):
    """The text of a state between the two marks of a selection."""
    chart = chart_of(history)
    mask = known_state(chart, state)
    begin, end = known_selection(chart, selection)
    return "".join([chart.glyphs[place] for place in range(begin, end) if is_seen(chart, mask, place)])


def known_folds(chart, folds):
    """For each selection of a list how many signs of the ever-row come ahead of its two marks."""
    return known_items(chart, folds, gaps_if_selection)


def do_cross(one, other):
    """Whether one stretch begins within another one and ends behind it."""
    return one[0] < other[0] < one[1] < other[1] or other[0] < one[0] < other[1] < one[1]


def first_crossing(folds, gaps):
    """The first two of some folds that cross, or None."""
    for former in range(len(folds)):
        for latter in range(former + 1, len(folds)):
            if do_cross(gaps[former], gaps[latter]):
                return (folds[former], folds[latter])
    return None


def crossing(history, folds):
    """The first tuple of two selections of a list that cross, or None."""
    return first_crossing(folds, known_folds(chart_of(history), folds))


def folded(history, state, folds):
    """The text of a state in which each longest stretch that a fold holds is one sign."""
    chart = chart_of(history)
    mask = known_state(chart, state)
    gaps = known_folds(chart, folds)
    crossed = first_crossing(folds, gaps)
    if crossed is not None:
        raise InvalidItem(crossed[1])
    shown = seen_places(chart, mask)
    # Folds that do not cross hold one another or have no sign in common, so the farthest end is that of the longest.
    text, number = "", 0
    while number < len(shown):
        ends = [end for begin, end in gaps if begin <= shown[number] < end]
        if ends:
            text += FOLD_SIGN
            number = len([place for place in shown if place < max(ends)])
        else:
            text += chart.glyphs[shown[number]]
            number += 1
    return text
