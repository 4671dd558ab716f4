"""The greatest states in which some signs are seen and others are not (sets of deeds are masks here, signs places)."""


def greatest_hiding(chart, within, hidden):
    """The greatest state within another one in which some signs are not seen."""
    state = within
    # A put goes only if no drop that is left hides its sign; drops that rest on it go, too, so all is looked at again.
    changed = True
    while changed:
        changed = False
        for place in hidden:
            owner = chart.owners[place]
            if state >> owner & 1 and not chart.foes[place] & state:
                state &= ~(1 << owner | chart.above[owner])
                changed = True
    return state


def greatest_showing(chart, within, shown, hidden):
    """The greatest state within another one in which some signs are seen and others are not, or None."""
    state = within
    for place in shown:
        state &= ~chart.foes[place]
    state = greatest_hiding(chart, state, hidden)
    if not all([state >> chart.owners[place] & 1 for place in shown]):
        return None
    return state


def places_amid(places):
    """The places between the first and the last one of a line that are not of the line."""
    return [place for place in range(places[0], places[-1]) if place not in places]


def greatest_standing(chart, within, places):
    """The greatest state within another one in which a line of signs stands, or None."""
    return greatest_showing(chart, within, places, places_amid(places))
