"""States by number: all between two of them in Python's order of their lists, and all texts ([22], [23])."""

from everrow.chart import numbers_in


def all_states(chart):
    """The list of the masks of all states."""
    masks = [0]
    for number, below in enumerate(chart.below):
        masks = masks + [mask | 1 << number for mask in masks if not below & ~mask]
    return masks


def texts_of(chart, masks):
    """The list of the texts of states."""
    runs = text_runs(chart)
    return ["".join([text for bit, foes, text in runs if mask & bit and not mask & foes]) for mask in masks]


def showing_masks(chart, text):
    """The list of the masks of the states whose text it is."""
    masks = all_states(chart)
    return [mask for mask, shown in zip(masks, texts_of(chart, masks)) if shown == text]


def text_runs(chart):
    """The ever-row, cut into stretches that come and go as one: tuples of the put's mask, the drops', the text."""
    runs = []
    for owner, foes, glyph in zip(chart.owners, chart.foes, chart.glyphs):
        ahead = ""
        if runs and runs[-1][:2] == (1 << owner, foes):
            ahead = runs.pop()[2]
        runs.append((1 << owner, foes, ahead + glyph))
    return runs


def how_many_within(chart, free, known):
    """How many sets of free deeds have all free ones on which theirs rest; `known` keeps the answers."""
    if free == 0:
        return 1
    if free not in known:
        last = free.bit_length() - 1
        # Nothing free rests on the last one. Without it or with it, the others are free but what it needs.
        without = how_many_within(chart, free & ~(1 << last), known)
        known[free] = without + how_many_within(chart, free & ~(1 << last | chart.below[last]), known)
    return known[free]


def how_many_between(chart, low, high):
    """How many states have all deeds of one state and only deeds of another one."""
    if low & ~high:
        return 0
    return how_many_within(chart, high & ~low, {})


def how_many_from(chart, low, high, begun, number, known):
    """How many states between two have, of the deeds up to one, just this one and those begun with.

    The deeds begun with have to be of such a state and all stand ahead, and none of `low` may be passed over.
    """
    if not high >> number & 1 or chart.below[number] & ~begun:
        return 0
    passed = (1 << (number + 1)) - 1
    begun |= 1 << number
    free = 0
    for later in numbers_in(high & ~passed):
        if not chart.below[later] & passed & ~begun:
            free |= 1 << later
    return how_many_within(chart, free & ~low, known)


def state_between(chart, low, high, number):
    """The state with a number among those between two states (there has to be one)."""
    begun, known = 0, {}
    while low & ~begun or number > 0:
        if not low & ~begun:
            number -= 1
        follower = begun.bit_length()
        many = how_many_from(chart, low, high, begun, follower, known)
        while number >= many:
            number -= many
            follower += 1
            many = how_many_from(chart, low, high, begun, follower, known)
        begun |= 1 << follower
    return begun


def number_between(chart, low, high, state):
    """The number of a state among those between two states (it has to be one of them)."""
    number, begun, known = 0, 0, {}
    for chosen in numbers_in(state):
        # Ahead of it come what it begins with, if this is a state between them, and what goes on with a lesser deed.
        if not low & ~begun:
            number += 1
        for lesser in range(begun.bit_length(), chosen):
            number += how_many_from(chart, low, high, begun, lesser, known)
        begun |= 1 << chosen
    return number
