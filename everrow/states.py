"""States: steps between them, their numbers between two bounds, their texts, what parts them ([20] to [24])."""

from everrow.chart import closed_up, is_seen, names_in, shown_text, size_of
from everrow.checks import known_deed, known_state, number_if_deed
from everrow.counting import all_states, how_many_between, number_between, showing_masks, state_between, texts_of
from everrow.errors import InvalidNumber, InvalidState, InvalidText
from everrow.history import chart_of
from everrow.kinds import is_text, is_whole_within


def out(history, state, name):
    """The state with as many deeds of a state as possible without one."""
    chart = chart_of(history)
    mask = known_state(chart, state)
    number = known_deed(chart, name)
    return names_in(chart, mask & ~(1 << number | chart.above[number]))


def into(history, state, name):
    """The state with as few deeds as possible beside those of a state and one more."""
    chart = chart_of(history)
    mask = known_state(chart, state)
    return names_in(chart, closed_up(chart, mask | 1 << known_deed(chart, name)))


def meet(history, one, other):
    """The state of the deeds that two states both have."""
    chart = chart_of(history)
    mask = known_state(chart, one)
    return names_in(chart, mask & known_state(chart, other))


def join(history, one, other):
    """The state of the deeds that one of two states has."""
    chart = chart_of(history)
    mask = known_state(chart, one)
    return names_in(chart, mask | known_state(chart, other))


def way(history, one, other):
    """As few steps as possible that lead from one state to another one."""
    chart = chart_of(history)
    first = known_state(chart, one)
    last = known_state(chart, other)
    # What rests on a deed stands behind it, so the last deeds go first and the first ones come first.
    leaving = [("out", name) for name in reversed(names_in(chart, first & ~last))]
    return leaving + [("in", name) for name in names_in(chart, last & ~first)]


def is_way(history, one, other, value):
    """Whether any value is a list of steps that lead from one state to another one."""
    chart = chart_of(history)
    mask = known_state(chart, one)
    goal = known_state(chart, other)
    if not isinstance(value, list):
        return False
    for step in value:
        mask = stepped_to(chart, mask, step)
        if mask is None:
            return False
    return mask == goal


def stepped_to(chart, mask, step):
    """The state to which any value leads from a state as a step, or None if it leads nowhere."""
    if not isinstance(step, tuple) or len(step) != 2:
        return None
    number = number_if_deed(chart, step[1])
    if number is None:
        return None
    there = bool(mask >> number & 1)
    if step[0] == "out" and there and not mask & chart.above[number]:
        return mask & ~(1 << number)
    if step[0] == "in" and not there and not chart.below[number] & ~mask:
        return mask | 1 << number
    return None


def how_many(history, low, high):
    """How many states have all deeds of one state and only deeds of another one."""
    chart = chart_of(history)
    least = known_state(chart, low)
    return how_many_between(chart, least, known_state(chart, high))


def state_at(history, low, high, number):
    """The state with a number among those between two states, as they stand in order."""
    chart = chart_of(history)
    least = known_state(chart, low)
    most = known_state(chart, high)
    if not is_whole_within(number, 0, how_many_between(chart, least, most) - 1):
        raise InvalidNumber(number)
    return names_in(chart, state_between(chart, least, most, number))


def number_of(history, low, high, state):
    """The number of a state among those between two states, as they stand in order."""
    chart = chart_of(history)
    least = known_state(chart, low)
    most = known_state(chart, high)
    mask = known_state(chart, state)
    if least & ~mask or mask & ~most:
        raise InvalidState(state)
    return number_between(chart, least, most, mask)


def texts(history):
    """The list, in order, of the texts of all states, each once."""
    chart = chart_of(history)
    shown = {text: True for text in texts_of(chart, all_states(chart))}
    return sorted(shown)


def showing(history, text):
    """The first in order of the states with as few deeds as possible whose text it is, or None."""
    chart = chart_of(history)
    if not is_text(text):
        raise InvalidText(text)
    fitting = showing_masks(chart, text)
    if not fitting:
        return None
    fewest = min([size_of(mask) for mask in fitting])
    return min([names_in(chart, mask) for mask in fitting if size_of(mask) == fewest])


def parted(history, one, other):
    """At most one later deed with which two states show unlike texts, or None if none part them."""
    chart = chart_of(history)
    first = known_state(chart, one)
    second = known_state(chart, other)
    if shown_text(chart, first) != shown_text(chart, second):
        return []
    shared = first & second
    places = [place for place, owner in enumerate(chart.owners) if shared >> owner & 1]
    for place in places:
        if is_seen(chart, first, place) != is_seen(chart, second, place):
            return [("drop", later_name(chart), [chart.signs[place]])]
    return parting_put(chart, first, second, places)


def later_name(chart):
    """A deed name with a number greater than all of a history."""
    return (max([name[0] for name in chart.names], default=0) + 1, "a")


def parting_put(chart, first, second, places):
    """A put, on the sign at one of some places, that two states of one text show at unlike places in it, or None."""
    text = shown_text(chart, first)
    for place in places:
        gaps = sorted([seen_up_to(chart, mask, place) for mask in (first, second)])
        if gaps[0] < gaps[1]:
            # A sign put in at either end of a stretch leaves one text only if the stretch is of that sign alone.
            sign = "b" if text[gaps[0]] == "a" else "a"
            return [("put", later_name(chart), chart.signs[place], sign)]
    return None


def seen_up_to(chart, mask, place):
    """How many signs are seen in a state up to a place of the ever-row, this one too."""
    return len([ahead for ahead in range(place + 1) if is_seen(chart, mask, ahead)])
