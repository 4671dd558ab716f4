"""Arguments that belong to a history, looked up in its chart, or refused with the error that they call for."""

from everrow.errors import InvalidItem, InvalidLine, InvalidList, InvalidState, UnknownDeed, UnknownSign
from everrow.kinds import is_ascending, is_deed_name, is_sign_name


def number_if_deed(chart, value):
    """The number of the deed whose name a value is, or None."""
    # The form is looked at first: Python takes True for 1 and cannot look up a list.
    return chart.numbers.get(value) if is_deed_name(value) else None


def place_if_sign(chart, value):
    """The place of the sign whose name a value is, or None."""
    return chart.places.get(value) if is_sign_name(value) else None


def mask_if_state(chart, value):
    """The mask of the state that a value is, or None."""
    if not isinstance(value, list):
        return None
    mask = 0
    for item in value:
        number = number_if_deed(chart, item)
        # All that a deed rests on has lesser numbers, so it has to be there already.
        if number is None or mask >> number or chart.below[number] & ~mask:
            return None
        mask |= 1 << number
    return mask


def places_if_line(chart, value):
    """The places of the signs of a list that is in the order of the ever-row, each once; None for all else."""
    if not isinstance(value, list):
        return None
    places = [place_if_sign(chart, item) for item in value]
    if None in places or not is_ascending(places):
        return None
    return places


def known_deed(chart, name):
    """The number of a deed."""
    number = number_if_deed(chart, name)
    if number is None:
        raise UnknownDeed(name)
    return number


def known_sign(chart, sign):
    """The place of a sign."""
    place = place_if_sign(chart, sign)
    if place is None:
        raise UnknownSign(sign)
    return place


def known_state(chart, state):
    """The mask of a state."""
    mask = mask_if_state(chart, state)
    if mask is None:
        raise InvalidState(state)
    return mask


def known_items(chart, listed, find):
    """What a function finds for each item of a list; it finds None for what does not fit."""
    if not isinstance(listed, list):
        raise InvalidList(listed)
    found = []
    for item in listed:
        known = find(chart, item)
        if known is None:
            raise InvalidItem(item)
        found.append(known)
    return found


def known_states(chart, states):
    """The masks of a list of states."""
    return known_items(chart, states, mask_if_state)


def known_line(chart, line):
    """The places of a line of signs."""
    places = places_if_line(chart, line)
    if not places:
        raise InvalidLine(line)
    return places


def known_deeds(chart, listed):
    """The mask of a list of deed names, each once."""
    if not isinstance(listed, list):
        raise InvalidList(listed)
    mask = 0
    for name in listed:
        number = known_deed(chart, name)
        if mask >> number & 1:
            raise InvalidItem(name)
        mask |= 1 << number
    return mask
