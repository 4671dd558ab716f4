"""The chart of a history: its deeds by number, its signs by place, and sets of deeds as masks.

Deeds are numbered from 0 on in the order of their names. The number in the name of a deed is greater than
those of all that it rests on, so what a deed rests on always stands ahead of it here, too. Signs have their
places in the ever-row. A mask is an integer whose bit k tells whether the deed with the number k is in a set.
"""

from everrow.kinds import named_signs, put_size


class Chart:
    """What is worked out once of the deeds of a history, given in the order of their names; it never changes."""

    def __init__(self, made):
        self.made = made
        self.names = [deed[1] for deed in made]
        self.numbers = {name: number for number, name in enumerate(self.names)}
        self.below = masks_below(made, self.numbers)
        self.above = masks_above(self.below)
        self.signs = row_of(made)
        self.places = {sign: place for place, sign in enumerate(self.signs)}
        self.owners = [self.numbers[sign[:2]] for sign in self.signs]
        self.glyphs = [made[owner][3][sign[2]] for owner, sign in zip(self.owners, self.signs)]
        self.foes = masks_of_foes(made, self.places)


def masks_below(made, numbers):
    """For each deed the mask of all on which it rests."""
    below = []
    for deed in made:
        mask = 0
        for sign in named_signs(deed):
            owner = numbers[sign[:2]]
            mask |= 1 << owner | below[owner]
        below.append(mask)
    return below


def masks_above(below):
    """For each deed the mask of all that rest on it."""
    above = [0] * len(below)
    for number, mask in enumerate(below):
        for other in numbers_in(mask):
            above[other] |= 1 << number
    return above


def masks_of_foes(made, places):
    """For each place of the ever-row the mask of the drops that name its sign."""
    foes = [0] * len(places)
    for number, deed in enumerate(made):
        if deed[0] == "drop":
            for sign in deed[2]:
                foes[places[sign]] |= 1 << number
    return foes


def hanging(made):
    """For each sign, and for None, the signs that hang on it, the one with the greatest deed name last."""
    found = {None: []}
    for deed in made:
        holder = deed[2] if deed[0] == "put" else None
        for at in range(put_size(deed)):
            sign = (deed[1][0], deed[1][1], at)
            found[sign] = []
            found[holder].append(sign)
            holder = sign
    return found


def row_of(made):
    """The ever-row: sign names, each followed by all that hangs on it ahead of the next one."""
    found = hanging(made)
    row = []
    coming = list(found[None])
    while coming:
        sign = coming.pop()
        row.append(sign)
        coming.extend(found[sign])
    return row


def numbers_in(mask):
    """The ascending list of the numbers in a mask."""
    return [number for number in range(mask.bit_length()) if mask >> number & 1]


def size_of(mask):
    """How many numbers are in a mask."""
    size = 0
    while mask:
        mask &= mask - 1
        size += 1
    return size


def names_in(chart, mask):
    """The list, in order, of the names of the deeds in a mask."""
    return [chart.names[number] for number in numbers_in(mask)]


def names_or_none(chart, mask):
    """The same, or None for None."""
    return None if mask is None else names_in(chart, mask)


def least_of(masks):
    """The first of some masks with as few numbers as possible, or None if there are none."""
    if not masks:
        return None
    sizes = [size_of(mask) for mask in masks]
    return masks[sizes.index(min(sizes))]


def whole_mask(chart):
    """The mask of all deeds."""
    return (1 << len(chart.names)) - 1


def closed_up(chart, mask):
    """The least state that has all deeds in a mask."""
    state = mask
    for number in numbers_in(mask):
        state |= chart.below[number]
    return state


def closed_down(chart, mask):
    """The greatest state that has only deeds in a mask."""
    state = 0
    for number in numbers_in(mask):
        if not chart.below[number] & ~mask:
            state |= 1 << number
    return state


def is_seen(chart, mask, place):
    """Whether the sign at a place of the ever-row is seen in a state."""
    return bool(mask >> chart.owners[place] & 1) and not chart.foes[place] & mask


def seen_places(chart, mask):
    """The ascending list of the places of the ever-row whose signs are seen in a state."""
    return [place for place in range(len(chart.signs)) if is_seen(chart, mask, place)]


def shown_text(chart, mask):
    """The text of a state."""
    return "".join([chart.glyphs[place] for place in seen_places(chart, mask)])
