"""Who may do what: bars over what lies in the ever-row, and a desk that takes deeds in under them ([203] to [205]).

Between two marks that are neighbours in the one order of marks lies a cell: a sign, or a gap into which new signs
can come, and no deed of any history tells parts of a gap from each other. So what the bars of a hand hold is a set of
cells, a mask here: the cell with the number k lies between the marks with the numbers k and k + 1.
"""

from everrow.chart import closed_down, names_in, whole_mask
from everrow.checks import known_items, known_state
from everrow.demands import check_name, check_within
from everrow.errors import InvalidItem, InvalidMark, NothingToUndo
from everrow.history import MOST_DEEDS, History, chart_of
from everrow.kinds import is_name
from everrow.making import maker_for
from everrow.marks import mark_of_rank, ranks_if_selection


def cells_if_bar(chart, value):
    """The tuple of the hand and of the mask of the cells of the bar that a value is, or None."""
    if not isinstance(value, tuple) or len(value) != 2 or not is_name(value[0]):
        return None
    ranks = ranks_if_selection(chart, value[1])
    return None if ranks is None else (value[0], (1 << ranks[1]) - (1 << ranks[0]))


def known_bars(chart, bars):
    """For each hand of which a list of bars holds cells, the mask of them."""
    held = {}
    for hand, cells in known_items(chart, bars, cells_if_bar):
        if cells:
            held[hand] = held.get(hand, 0) | cells
    return held


def touched_places(chart, deed):
    """The places of the signs that a put has, or that a drop names."""
    if deed[0] == "drop":
        return [chart.places[sign] for sign in deed[2]]
    return [place for place, sign in enumerate(chart.signs) if sign[:2] == deed[1]]


def breaking_mask(chart, held):
    """The mask of the deeds that touch a cell that is held against their hands."""
    mask = 0
    for number, deed in enumerate(chart.made):
        cells = held.get(deed[1][1], 0)
        if any([cells >> 2 * place + 1 & 1 for place in touched_places(chart, deed)]):
            mask |= 1 << number
    return mask


def breaks(history, bars):
    """The list, in order, of the names of the deeds that break some bar."""
    chart = chart_of(history)
    return names_in(chart, breaking_mask(chart, known_bars(chart, bars)))


def granted(history, bars):
    """The state with as many deeds as possible none of which breaks a bar."""
    chart = chart_of(history)
    return names_in(chart, closed_down(chart, whole_mask(chart) & ~breaking_mask(chart, known_bars(chart, bars))))


def is_granted(history, bars, state):
    """Whether no deed of a state breaks a bar."""
    chart = chart_of(history)
    held = known_bars(chart, bars)
    return not known_state(chart, state) & breaking_mask(chart, held)


def same_bars(history, one, other):
    """Whether just the same deeds break some bar of two lists, in this history and all larger ones."""
    chart = chart_of(history)
    held = known_bars(chart, one)
    return held == known_bars(chart, other)


def parting_deed(history, one, other):
    """A next deed that breaks some bar of just one of two lists, or None if there is none."""
    chart = chart_of(history)
    held = known_bars(chart, one)
    others = known_bars(chart, other)
    for hand in sorted(set(list(held) + list(others))):
        unlike = held.get(hand, 0) ^ others.get(hand, 0)
        if unlike:
            return deed_in_cell(chart, hand, unlike.bit_length() - 1)
    return None


def deed_in_cell(chart, hand, cell):
    """The next deed of a hand that touches a cell: it drops its sign, or puts one into its gap."""
    name = maker_for(chart, hand).next_name()
    place = cell // 2
    if cell % 2 == 1:
        return ("drop", name, [chart.signs[place]])
    # The greatest deed comes right behind its anchor.
    return ("put", name, chart.signs[place - 1] if place > 0 else None, "a")


def fewest_bars(history, bars):
    """The list of as few bars as possible that is alike to a list of bars."""
    chart = chart_of(history)
    held = known_bars(chart, bars)
    found = []
    for hand in sorted(held):
        for begin, end in runs_of(held[hand]):
            found.append((hand, (mark_of_rank(chart, begin), mark_of_rank(chart, end))))
    return found


def runs_of(mask):
    """For each longest stretch of neighbours in a mask the first number, and the first one behind it."""
    found = []
    for number in range(mask.bit_length() + 1):
        if mask >> number & 1:
            begin = found.pop()[0] if found and found[-1][1] == number else number
            found.append((begin, number + 1))
    return found


class Desk:
    """A history that deeds come into if they break none of some bars."""

    def __init__(self, history):
        chart_of(history)
        self._history = history
        self._bars = []
        # The history and the bars ahead of each thing that was done and has not been undone.
        self._past = []

    def history(self):
        """The history of the given one's deeds and all that were taken in."""
        return self._history

    def bars(self):
        """The list of the bars."""
        return list(self._bars)

    def bar(self, hand, selection):
        """Puts a bar behind the others."""
        check_name(hand)
        if ranks_if_selection(chart_of(self._history), selection) is None:
            raise InvalidMark(selection)
        self._become(self._history, self._bars + [(hand, selection)])

    def lift(self, number):
        """Takes a bar out."""
        check_within(number, 0, len(self._bars) - 1)
        self._become(self._history, self._bars[:number] + self._bars[number + 1:])

    def take(self, deed):
        """Takes one deed more in."""
        made = self._history.deeds()
        if len(made) == MOST_DEEDS:
            raise InvalidItem(deed)
        # Those that are there fit, so it is the deed that is refused if no history can be made.
        history = History(made + [deed])
        if deed[1] in breaks(history, self._bars):
            raise InvalidItem(deed)
        self._become(history, self._bars)

    def back(self):
        """Undoes the last thing that was done and has not been undone."""
        if not self._past:
            raise NothingToUndo()
        self._history, self._bars = self._past.pop()

    def _become(self, history, bars):
        """Keeps what is there, and goes on with another history and other bars."""
        self._past.append((self._history, self._bars))
        self._history = history
        self._bars = bars
