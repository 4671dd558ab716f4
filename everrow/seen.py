"""What all states show: lines of signs that stand, signs seen with others, what can go unseen ([50] to [54])."""

from everrow.chart import closed_up, is_seen, least_of, names_in, names_or_none, numbers_in, whole_mask
from everrow.checks import known_line, known_sign, known_state, known_states, places_if_line
from everrow.errors import InvalidLine, InvalidText
from everrow.hiding import greatest_showing, greatest_standing, places_amid
from everrow.history import History, chart_of
from everrow.kinds import is_text_within

LONGEST_WORD = 4


def stands(history, state, line):
    """Whether a line of signs stands in a state."""
    chart = chart_of(history)
    mask = known_state(chart, state)
    places = known_line(chart, line)
    if not all([is_seen(chart, mask, place) for place in places]):
        return False
    return not any([is_seen(chart, mask, place) for place in places_amid(places)])


def best(history, line):
    """The state with all deeds of each other one in which a line of signs stands, or None."""
    chart = chart_of(history)
    return names_or_none(chart, greatest_standing(chart, whole_mask(chart), known_line(chart, line)))


def only(history, line):
    """The state with all deeds of each other one in which the signs of a line are all that is seen, or None."""
    chart = chart_of(history)
    places = places_if_line(chart, line)
    if places is None:
        raise InvalidLine(line)
    others = [place for place in range(len(chart.signs)) if place not in places]
    return names_or_none(chart, greatest_showing(chart, whole_mask(chart), places, others))


def read(history, word):
    """A line of signs that are those of a word, and the greatest state in which it stands, or None."""
    chart = chart_of(history)
    if not is_text_within(word, 1, LONGEST_WORD):
        raise InvalidText(word)
    found = spelled(chart, word, [], whole_mask(chart))
    if found is None:
        return None
    return ([chart.signs[place] for place in found[0]], names_in(chart, found[1]))


def spelled(chart, word, places, mask):
    """The line, and its greatest state, that goes on with a word from a line that stands in its own, or None."""
    if word == "":
        return (places, mask)
    for place in range(places[-1] + 1 if places else 0, len(chart.signs)):
        if chart.glyphs[place] == word[0]:
            # The greatest state of the longer line lies within that of the line that it begins with.
            more = greatest_standing(chart, mask, places + [place])
            found = None if more is None else spelled(chart, word[1:], places + [place], more)
            if found is not None:
                return found
    return None


def whenever(history, one, other):
    """A state with as few deeds as possible in which one sign is seen and another one is not, or None."""
    chart = chart_of(history)
    first = known_sign(chart, one)
    second = known_sign(chart, other)
    least = closed_up(chart, 1 << chart.owners[first])
    if not is_seen(chart, least, second):
        return names_in(chart, least)
    drops = numbers_in(chart.foes[second] & ~chart.foes[first])
    return names_or_none(chart, least_of([least | closed_up(chart, 1 << number) for number in drops]))


def trimmed(history, states):
    """The history and the states that are left when all has gone that no state has or sees."""
    chart = chart_of(history)
    masks = known_states(chart, states)
    left = left_deeds(chart, masks)
    deeds = [left_of(chart, left, number) for number in numbers_in(left)]
    return (History(deeds), [names_in(chart, mask & left) for mask in masks])


def left_deeds(chart, masks):
    """The mask of the deeds that are left."""
    had = 0
    for mask in masks:
        had |= mask
    drops = [number for number in numbers_in(had) if chart.made[number][0] == "drop"]
    left = had
    # Puts stand behind those on which they rest, so from the last one on each is looked at when it can go at all.
    for number in reversed(numbers_in(had)):
        if number not in drops and can_go(chart, masks, left, number, drops):
            left &= ~(1 << number)
    for number in drops:
        if not left_signs(chart, left, number):
            left &= ~(1 << number)
    return left


def can_go(chart, masks, left, number, drops):
    """Whether nothing rests on a put but drops, of what is left, and none of the states sees a sign of it."""
    if not all([bearer in drops for bearer in numbers_in(chart.above[number] & left)]):
        return False
    places = [place for place, owner in enumerate(chart.owners) if owner == number]
    return not any([is_seen(chart, mask, place) for mask in masks for place in places])


def left_signs(chart, left, number):
    """The names of the signs of a drop whose puts are left."""
    return [sign for sign in chart.made[number][2] if left >> chart.numbers[sign[:2]] & 1]


def left_of(chart, left, number):
    """What is left of a deed."""
    deed = chart.made[number]
    if deed[0] == "put":
        return deed
    return ("drop", deed[1], left_signs(chart, left, number))
