"""Selections filled and emptied, the places of a mark between two states, and marks that swap ([65], [66])."""

from heapq import heappop, heappush

from everrow.chart import closed_up, names_in, numbers_in, size_of
from everrow.checks import known_state, known_states
from everrow.history import chart_of
from everrow.lines import bare_places
from everrow.marks import gap_of, known_mark, known_marks, known_selection, seen_ahead


def filled(history, state, selection):
    """The nearest state to a state in which all signs within a selection are seen."""
    chart = chart_of(history)
    mask = known_state(chart, state)
    owners = 0
    for place in selected_places(chart, selection):
        owners |= 1 << chart.owners[place]
        mask &= ~chart.foes[place]
    # Nothing rests on a drop and no put rests on one, so each can go or come without more than this.
    return names_in(chart, mask | closed_up(chart, owners))


def selected_places(chart, selection):
    """The places of the signs of the ever-row that lie within a selection."""
    begin, end = known_selection(chart, selection)
    return list(range(begin, end))


def emptied(history, state, selection):
    """A state as near as possible to a state in which no sign within a selection is seen."""
    chart = chart_of(history)
    mask = known_state(chart, state)
    return names_in(chart, nearest_hiding(chart, mask, selected_places(chart, selection)))


def nearest_hiding(chart, start, hidden):
    """A state as near as possible to a state in which some signs are not seen.

    What is looked through are deeds that are settled to be in or out, with all that has to be so with them. The
    fewest steps come first, and what hides all signs settles one of the ways to hide the first one that is seen.
    """
    queue = []
    met = {}
    mask, inside, outside = start, 0, 0
    bare = bare_places(chart, mask, hidden)
    while bare:
        for more in ways_to_hide(chart, bare[0], inside, outside):
            if more not in met:
                met[more] = True
                heappush(queue, (size_of(more[0] & ~start | more[1] & start),) + more)
        _, inside, outside = heappop(queue)
        mask = (start | inside) & ~outside
        bare = bare_places(chart, mask, hidden)
    return mask


def ways_to_hide(chart, place, inside, outside):
    """The ways to hide a sign, each as the masks of the deeds that are settled to be in and to be out."""
    owner = chart.owners[place]
    gone = outside | 1 << owner | chart.above[owner]
    found = [] if gone & inside else [(inside, gone)]
    for number in numbers_in(chart.foes[place]):
        come = inside | closed_up(chart, 1 << number)
        if not come & outside:
            found.append((come, outside))
    return found


def places_between(history, low, high, mark):
    """The least and the greatest place of a mark in the states between two states, or None if there are none."""
    chart = chart_of(history)
    least = known_state(chart, low)
    most = known_state(chart, high)
    gap = gap_of(known_mark(chart, mark))
    if least & ~most:
        return None
    drops = [number for number in numbers_in(most) if chart.made[number][0] == "drop"]
    places = [seen_ahead(chart, mask, gap) for mask in barest_states(chart, least, drops)]
    return (min(places), seen_ahead(chart, least | without(most, drops), gap))


def without(mask, numbers):
    """A mask without some numbers."""
    for number in numbers:
        mask &= ~(1 << number)
    return mask


def barest_states(chart, least, drops):
    """The states one of which shows the fewest signs ahead of any mark, of those with a state and some drops at most.

    Puts only bring signs, so none comes but for a drop; and whatever puts there are, all drops that can do so come.
    """
    grounds = {least: True}
    for number in drops:
        for ground in list(grounds):
            grounds[ground | chart.below[number]] = True
    states = []
    for ground in grounds:
        mask = ground
        for number in drops:
            if not chart.below[number] & ~ground:
                mask |= 1 << number
        states.append(mask)
    return states


def swaps(history, states, marks):
    """The list, in order, of the pairs of marks, by number, with one place in some but not all of some states."""
    chart = chart_of(history)
    masks = known_states(chart, states)
    gaps = [gap_of(rank) for rank in known_marks(chart, marks)]
    rows = [[seen_ahead(chart, mask, gap) for mask in masks] for gap in gaps]
    found = []
    for one in range(len(rows)):
        for other in range(one + 1, len(rows)):
            same = [first == second for first, second in zip(rows[one], rows[other])]
            if True in same and False in same:
                found.append((one, other))
    return found
