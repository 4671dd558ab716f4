"""Lines of signs between two states, two at once, with few deeds, and all short words that are shown ([55] to [57])."""

from heapq import heappop, heappush

from everrow.chart import closed_up, is_seen, names_in, names_or_none, numbers_in, size_of, whole_mask
from everrow.checks import known_line, known_state
from everrow.errors import InvalidNumber
from everrow.hiding import greatest_showing, greatest_standing, places_amid
from everrow.history import chart_of
from everrow.kinds import is_whole_within

MOST_SHOWN = 3


def best_between(history, low, high, line):
    """The greatest of the states between two in which a line of signs stands, or None."""
    chart = chart_of(history)
    least = known_state(chart, low)
    most = known_state(chart, high)
    mask = greatest_standing(chart, most, known_line(chart, line))
    if mask is None or least & ~mask:
        return None
    return names_in(chart, mask)


def best_both(history, one, other):
    """The greatest of the states in which two lines of signs both stand, or None."""
    chart = chart_of(history)
    first = known_line(chart, one)
    second = known_line(chart, other)
    hidden = places_amid(first) + places_amid(second)
    return names_or_none(chart, greatest_showing(chart, whole_mask(chart), first + second, hidden))


def fewest_for(history, line):
    """A state with as few deeds as possible in which a line of signs stands, or None."""
    chart = chart_of(history)
    places = known_line(chart, line)
    bound = greatest_standing(chart, whole_mask(chart), places)
    if bound is None:
        return None
    owners = 0
    for place in places:
        owners |= 1 << chart.owners[place]
    return names_in(chart, fewest_hiding(chart, closed_up(chart, owners), bound, places_amid(places)))


def fewest_hiding(chart, start, bound, hidden):
    """A state of as few deeds as possible that has all of a state and hides some signs, by deeds of a bound alone."""
    mask = start
    bare = bare_places(chart, mask, hidden)
    queue = []
    met = {}
    while bare:
        # Whatever hides all of them has one of the drops of the first one, with what that rests on.
        for number in numbers_in(chart.foes[bare[0]] & bound):
            more = mask | closed_up(chart, 1 << number)
            if more not in met:
                met[more] = True
                heappush(queue, (size_of(more), more))
        mask = heappop(queue)[1]
        bare = bare_places(chart, mask, hidden)
    return mask


def bare_places(chart, mask, hidden):
    """The places among some whose signs are seen in a state."""
    return [place for place in hidden if is_seen(chart, mask, place)]


def words_shown(history, size):
    """The list, in order, of all texts of so many signs that some state shows somewhere."""
    chart = chart_of(history)
    if not is_whole_within(size, 1, MOST_SHOWN):
        raise InvalidNumber(size)
    lines = [([], whole_mask(chart))]
    for _ in range(size):
        lines = longer_lines(chart, lines)
    words = {}
    for places, _ in lines:
        words["".join([chart.glyphs[place] for place in places])] = True
    return sorted(words)


def longer_lines(chart, lines):
    """All lines with their greatest states that go on by one sign from lines that stand in theirs."""
    found = []
    for places, mask in lines:
        for place in range(places[-1] + 1 if places else 0, len(chart.signs)):
            more = greatest_standing(chart, mask, places + [place])
            if more is not None:
                found.append((places + [place], more))
    return found
