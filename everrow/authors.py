"""Who did what: signs and states by hands, and texts that few hands bring ([200] to [202])."""

from everrow.chart import closed_down, least_of, names_in, names_or_none, numbers_in, seen_places, whole_mask
from everrow.checks import known_sign, known_state
from everrow.counting import showing_masks
from everrow.demands import check_name, check_names, check_text
from everrow.history import chart_of


def hand_of(chart, number):
    """The hand of a deed."""
    return chart.names[number][1]


def mask_by(chart, hands):
    """The mask of the deeds by some hands."""
    return sum([1 << number for number in range(len(chart.names)) if hand_of(chart, number) in hands])


def by_hands(history, state):
    """The list of the longest stretches of signs by one hand in the text of a state, each with its hand."""
    chart = chart_of(history)
    found = []
    for place in seen_places(chart, known_state(chart, state)):
        hand, text = hand_of(chart, chart.owners[place]), chart.glyphs[place]
        if found and found[-1][0] == hand:
            text = found.pop()[1] + text
        found.append((hand, text))
    return found


def without(history, state, hand):
    """The state with as many deeds of a state as possible and none by a hand."""
    chart = chart_of(history)
    mask = known_state(chart, state)
    check_name(hand)
    return names_in(chart, closed_down(chart, mask & ~mask_by(chart, [hand])))


def alone(history, hands):
    """The state with as many deeds as possible by hands of a list alone."""
    chart = chart_of(history)
    check_names(hands)
    return names_in(chart, closed_down(chart, mask_by(chart, hands)))


def brought(history, hands, text):
    """A state, with as few deeds as possible, by hands of a list alone, whose text it is, or None."""
    chart = chart_of(history)
    check_names(hands)
    check_text(text)
    others = whole_mask(chart) & ~mask_by(chart, hands)
    return names_or_none(chart, least_of([mask for mask in showing_masks(chart, text) if not mask & others]))


def fewest_hands(history, text):
    """As few hands as possible by whose deeds alone some state has a text, or None if no state has it."""
    chart = chart_of(history)
    check_text(text)
    rows = [[hand_of(chart, number) for number in numbers_in(mask)] for mask in showing_masks(chart, text)]
    return min([sorted(set(row)) for row in rows], key=len, default=None)


def turned_by(history, hand, sign):
    """Two states, the second one with one deed of a hand more, just one of which sees a sign; None if there are none.

    Where there is nothing but what it rests on, the put of the sign shows it, and a drop hides it.
    """
    chart = chart_of(history)
    check_name(hand)
    place = known_sign(chart, sign)
    turners = numbers_in((1 << chart.owners[place] | chart.foes[place]) & mask_by(chart, [hand]))
    before = least_of([chart.below[number] for number in turners])
    if before is None:
        return None
    turner = [number for number in turners if chart.below[number] == before][0]
    return (names_in(chart, before), names_in(chart, before | 1 << turner))
