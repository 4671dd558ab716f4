"""Histories: deeds, the ever-row of their signs, and states with their texts ([10] to [16])."""

from everrow.chart import Chart, closed_down, closed_up, is_seen, names_in, seen_places, shown_text
from everrow.checks import known_deed, known_deeds, known_sign, known_state, mask_if_state
from everrow.errors import InvalidHistory, InvalidItem, InvalidList
from everrow.kinds import copied, is_deed, named_signs, put_size

MOST_DEEDS = 24


class History:
    """A set of deeds in which all is there that they name; it never changes."""

    def __init__(self, deeds):
        check_deeds(deeds)
        self._deeds = sorted([copied(deed) for deed in deeds], key=lambda deed: deed[1])
        self._chart = Chart(self._deeds)

    def __eq__(self, other):
        return isinstance(other, History) and self._deeds == other._deeds

    def deeds(self):
        """The list of the deeds in the order of their names."""
        return [copied(deed) for deed in self._deeds]


def check_deeds(deeds):
    """Refuses what no history can be made of."""
    if not isinstance(deeds, list) or len(deeds) > MOST_DEEDS:
        raise InvalidList(deeds)
    sizes = {}
    for deed in deeds:
        if not is_deed(deed) or deed[1] in sizes:
            raise InvalidItem(deed)
        sizes[deed[1]] = put_size(deed)
    for deed in deeds:
        if not all([can_name(deed, sign, sizes) for sign in named_signs(deed)]):
            raise InvalidItem(deed)


def can_name(deed, sign, sizes):
    """Whether a deed may name a sign, by the numbers of signs that the deeds with certain names have."""
    return sign[2] < sizes.get(sign[:2], 0) and sign[0] < deed[1][0]


def can_follow(deed, sizes):
    """Whether a deed is new beside deeds with certain names and numbers of signs, and names only signs of these."""
    return deed[1] not in sizes and all([can_name(deed, sign, sizes) for sign in named_signs(deed)])


def chart_of(history):
    """The chart of a history."""
    if not isinstance(history, History):
        raise InvalidHistory(history)
    return history._chart


def deed_names(history):
    """The list, in order, of all deed names."""
    return list(chart_of(history).names)


def deed_named(history, name):
    """The deed of a name."""
    chart = chart_of(history)
    return copied(chart.made[known_deed(chart, name)])


def rests(history, name):
    """The list, in order, of the names of the deeds on which a deed rests."""
    chart = chart_of(history)
    return names_in(chart, chart.below[known_deed(chart, name)])


def bears(history, name):
    """The list, in order, of the names of the deeds that rest on a deed."""
    chart = chart_of(history)
    return names_in(chart, chart.above[known_deed(chart, name)])


def ever_row(history):
    """The list of the names of all signs in the order of the ever-row."""
    return list(chart_of(history).signs)


def sign_of(history, sign):
    """The sign that a sign name names."""
    chart = chart_of(history)
    return chart.glyphs[known_sign(chart, sign)]


def is_state(history, value):
    """Whether any value is a state of the history."""
    return mask_if_state(chart_of(history), value) is not None


def whole(history):
    """The state with all deeds."""
    return deed_names(history)


def closure(history, listed):
    """The state with as few deeds as possible that has all deeds of a list."""
    chart = chart_of(history)
    return names_in(chart, closed_up(chart, known_deeds(chart, listed)))


def heart(history, listed):
    """The state with as many deeds as possible that has only deeds of a list."""
    chart = chart_of(history)
    return names_in(chart, closed_down(chart, known_deeds(chart, listed)))


def seen(history, state):
    """The list of the names of the signs seen in a state, in the order of the ever-row."""
    chart = chart_of(history)
    return [chart.signs[place] for place in seen_places(chart, known_state(chart, state))]


def text_of(history, state):
    """The text of a state."""
    chart = chart_of(history)
    return shown_text(chart, known_state(chart, state))


def ahead_of(history, state, sign):
    """How many seen signs come ahead of a sign, whether it is itself seen or not."""
    chart = chart_of(history)
    mask = known_state(chart, state)
    return len([place for place in range(known_sign(chart, sign)) if is_seen(chart, mask, place)])
