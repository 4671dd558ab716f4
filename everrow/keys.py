"""Keys: what they make of a text, of all texts, and pressed again and again ([74] to [78])."""

from everrow.changes import Change, parting
from everrow.demands import check_from, check_text, check_within
from everrow.errors import InvalidKeys
from everrow.strokes import are_keys, press, press_sides, reach_of, steady_sides

LONGEST_TEXT = 200


def check_keys(keys):
    """Refuses what is no list of keys."""
    if not are_keys(keys):
        raise InvalidKeys(keys)


def check_pressing(text, at, keys):
    """Refuses what cannot be pressed on a text with a cursor."""
    check_text(text)
    check_within(at, 0, len(text))
    check_keys(keys)


def pressed(text, at, keys):
    """The tuple of the text and the cursor behind keys."""
    check_pressing(text, at, keys)
    return press(text, at, keys)


def effect(size, at, keys):
    """The tuple of the change that keys make of each text of a size with a cursor, and where the cursor is then."""
    check_within(size, 0, LONGEST_TEXT)
    check_within(at, 0, size)
    check_keys(keys)
    return effect_of(size, at, keys)


def effect_of(size, at, keys):
    """The same of keys that are some."""
    row, cursor = press(list(range(size)), at, keys)
    return (Change(size, row), cursor)


def first_unlike(one, other):
    """The least size with a cursor at which keys have unlike effects, or None if there is none."""
    for size in range(reach_of(one) + reach_of(other) + 3):
        row = list(range(size))
        for at in range(size + 1):
            if press(row, at, one) != press(row, at, other):
                return (size, at)
    return None


def alike(one, other):
    """Whether two lists of keys lead each text with each cursor to the same ones."""
    check_keys(one)
    check_keys(other)
    return first_unlike(one, other) is None


def unlike(one, other):
    """A text of as few signs as possible with a cursor for which two lists of keys are not alike, or None."""
    check_keys(one)
    check_keys(other)
    found = first_unlike(one, other)
    if found is None:
        return None
    size, at = found
    text = parting(effect_of(size, at, one)[0], effect_of(size, at, other)[0])
    # If no text parts the changes, the cursors are unlike behind each one.
    return ("a" * size if text is None else text, at)


def commute(one, other):
    """Whether two lists of keys are alike in both orders."""
    check_keys(one)
    check_keys(other)
    return first_unlike(one + other, other + one) is None


def idle(keys):
    """Whether keys change neither a text nor a cursor."""
    check_keys(keys)
    return first_unlike(keys, []) is None


def needless(keys):
    """The list, in order, of the places of the keys without which, one at a time, the others are alike to all."""
    check_keys(keys)
    return [at for at in range(len(keys)) if first_unlike(keys, keys[:at] + keys[at + 1:]) is None]


def outcome(text, at, keys):
    """What becomes of a text with a cursor when keys are pressed again and again."""
    check_pressing(text, at, keys)
    _, sides, later = steady_sides((at, len(text) - at), keys)
    if sides != later:
        return ("grows", sum(later) - sum(sides))
    times = 0
    here = (text, at)
    there = press(text, at, keys)
    # Where no side changes any more, what is kept stays or goes one way until it is gone, so this has an end.
    while here != there:
        times += 1
        here = there
        there = press(here[0], here[1], keys)
    return ("stands", times) + here


def often(text, at, keys, times):
    """The tuple of the length of the text and the cursor behind so many pressings of keys."""
    check_pressing(text, at, keys)
    check_from(times, 0)
    sides = (at, len(text) - at)
    passed, here, there = steady_sides(sides, keys)
    if times < passed:
        for _ in range(times):
            sides = press_sides(sides, keys)
        return (sum(sides), sides[0])
    more = times - passed
    return (sum(here) + more * (sum(there) - sum(here)), here[0] + more * (there[0] - here[0]))
