"""Patterns read sign by sign, one or several at once ([80] to [82], [88]).

A pattern is made of units, each of which takes one sign of some; where a gap stands between two units, any signs but
line ends may come. How far a text may have come through a pattern is a mask: bit k tells that just the first k units
may be done.
"""

from everrow.errors import InvalidPattern
from everrow.kinds import is_letter

SIGNS = "\n abcdefghijklmnopqrstuvwxyz"
LINE_END = "\n"
MOST_ITEMS = 6
LONGEST_WORD = 6
GAP = ("gap",)


class Machine:
    """A pattern, ready to be read; it never changes."""

    def __init__(self, pattern):
        units = units_of(pattern)
        self.done = 1 << len(units)
        # For each sign the mask of the numbers of units done ahead of a unit that takes it.
        self.takers = {sign: mask_of([sign in unit for unit in units]) for sign in SIGNS}
        self.gaps = gaps_of(pattern)


def is_word(value):
    """Whether a value is a word of letters and blanks."""
    if not isinstance(value, str) or not 1 <= len(value) <= LONGEST_WORD:
        return False
    return all([sign == " " or is_letter(sign) for sign in value])


def is_letter_set(value):
    """Whether a value is a tuple of the letters of which one fits."""
    if not isinstance(value, tuple) or len(value) != 2 or value[0] != "set":
        return False
    letters = value[1]
    if not isinstance(letters, str) or not letters or not all([is_letter(letter) for letter in letters]):
        return False
    return all([ahead < behind for ahead, behind in zip(letters, letters[1:])])


def is_pattern(value):
    """Whether a value is a pattern."""
    if not isinstance(value, list) or not 1 <= len(value) <= MOST_ITEMS:
        return False
    gaps = [item == GAP for item in value]
    if gaps[0] or gaps[-1] or any([ahead and behind for ahead, behind in zip(gaps, gaps[1:])]):
        return False
    return all([item == GAP or is_word(item) or is_letter_set(item) for item in value])


def machine_for(pattern):
    """The machine of a pattern."""
    if not is_pattern(pattern):
        raise InvalidPattern(pattern)
    return Machine(pattern)


def unit_rows(pattern):
    """For each item of a pattern the list of its units, each the string of the signs that it takes."""
    rows = []
    for item in pattern:
        if isinstance(item, str):
            rows.append(list(item))
        else:
            rows.append([] if item == GAP else [item[1]])
    return rows


def units_of(pattern):
    """The list of all units of a pattern."""
    return [unit for row in unit_rows(pattern) for unit in row]


def gaps_of(pattern):
    """The mask of the numbers of units that are done ahead of a gap."""
    gaps, many = 0, 0
    for row in unit_rows(pattern):
        if not row:
            gaps |= 1 << many
        many += len(row)
    return gaps


def mask_of(flags):
    """The mask of the numbers of the flags that are true."""
    return sum([1 << number for number, flag in enumerate(flags) if flag])


def step(machine, mask, sign):
    """How far texts have come with one sign more."""
    more = (mask & machine.takers[sign]) << 1
    if sign != LINE_END:
        more |= mask & machine.gaps
    # Whatever goes on from ahead of a gap can be passed over in the gap, so only the last one of them matters.
    passed = max((more & machine.gaps).bit_length() - 1, 0)
    return more >> passed << passed


def does_fit(machine, text):
    """Whether a text fits."""
    mask = 1
    for sign in text:
        mask = step(machine, mask, sign)
    return bool(mask & machine.done)


def least_end(machine, text, begin):
    """Where the shortest stretch of a text that fits and begins at a place ends, or None if there is none."""
    mask = 1
    for end in range(begin, len(text)):
        mask = step(machine, mask, text[end])
        if mask & machine.done:
            return end + 1
    return None


def first_match(machine, text, place):
    """The match of a text that begins first, from a place on, and ends first; None if there is none."""
    for begin in range(place, len(text)):
        end = least_end(machine, text, begin)
        if end is not None:
            return (begin, end)
    return None


def all_matches(machine, text):
    """The list of the matches of a text from the left, each behind the one ahead of it."""
    found = []
    match = first_match(machine, text, 0)
    while match is not None:
        found.append(match)
        match = first_match(machine, text, match[1])
    return found


def sign_kinds(machines):
    """For each kind of signs that some machines treat alike the tuple of the least one and how many there are."""
    kinds = {}
    for sign in SIGNS:
        kind = (sign == LINE_END,) + tuple([machine.takers[sign] for machine in machines])
        kinds[kind] = kinds.get(kind, []) + [sign]
    return [(kinds[kind][0], len(kinds[kind])) for kind in kinds]


def start_of(machines):
    """How far the empty text has come through some machines."""
    return (1,) * len(machines)


def step_all(machines, masks, sign):
    """How far texts have come through some machines with one sign more."""
    return tuple([step(machine, mask, sign) for machine, mask in zip(machines, masks)])


def fitting(machines, masks):
    """For each of some machines whether a text that has come so far fits."""
    return tuple([bool(mask & machine.done) for machine, mask in zip(machines, masks)])


def least_text(machines, wanted):
    """The least text of which it is wanted which of some machines it fits, or None if there is none."""
    kinds = sign_kinds(machines)
    reached = [("", start_of(machines))]
    met = {}
    # Texts are gone through by length, those of one length in order.
    while reached:
        following = []
        for text, masks in reached:
            for sign, _ in kinds:
                more = step_all(machines, masks, sign)
                if fitting(machines, more) in wanted:
                    return text + sign
                if more not in met:
                    met[more] = True
                    following.append((text + sign, more))
        reached = following
    return None
