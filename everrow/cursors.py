"""Several cursors: keys pressed at all of them at once ([130], [131])."""

from everrow.changes import Change, parting
from everrow.demands import check_text, check_within
from everrow.errors import InvalidList
from everrow.keys import LONGEST_TEXT, check_keys
from everrow.kinds import is_ascending, is_whole_within
from everrow.strokes import JUMPS, reach_of

MOST_CURSORS = 4
MOST_TRIED = 3
LEFTWARD = ("left", "rub")
RIGHTWARD = ("right", "cut")


def check_cursors(cursors, size):
    """Refuses what is no list of cursors of a text of a size."""
    if not isinstance(cursors, list) or not 1 <= len(cursors) <= MOST_CURSORS:
        raise InvalidList(cursors)
    if not all([is_whole_within(cursor, 0, size) for cursor in cursors]) or not is_ascending(cursors):
        raise InvalidList(cursors)


def pressed_at(text, cursors, keys):
    """The tuple of the text and the cursors behind keys."""
    check_text(text)
    check_cursors(cursors, len(text))
    check_keys(keys)
    return press_at(text, cursors, keys)


def effect_at(size, cursors, keys):
    """The tuple of the change that keys make of each text of a size with cursors, and where these are then."""
    check_within(size, 0, LONGEST_TEXT)
    check_cursors(cursors, size)
    check_keys(keys)
    return effect_of(size, cursors, keys)


def effect_of(size, cursors, keys):
    """The same of cursors and keys that are some."""
    row, behind = press_at(list(range(size)), cursors, keys)
    return (Change(size, row), behind)


def press_at(row, cursors, keys):
    """What keys make of a text, or of a list of items, with cursors: a tuple of both."""
    for key in keys:
        if key[0] == "rub":
            row, cursors = taken_out(row, [(max(at - key[1], 0), at) for at in cursors])
        elif key[0] == "cut":
            row, cursors = taken_out(row, [(at, min(at + key[1], len(row))) for at in cursors])
        elif key[0] == "write":
            row, cursors = written(row, cursors, key[1])
        else:
            cursors = [moved(at, key, len(row)) for at in cursors]
        cursors = as_one(cursors)
    return (row, list(cursors))


def moved(at, key, size):
    """Where a key that only moves leads a cursor in a row of a size."""
    if key[0] == "left":
        return max(at - key[1], 0)
    if key[0] == "right":
        return min(at + key[1], size)
    return 0 if key[0] == "first" else size


def as_one(cursors):
    """Cursors, those at one gap as one."""
    return [at for number, at in enumerate(cursors) if number == 0 or at != cursors[number - 1]]


def taken_out(row, stretches):
    """A row without some stretches, one for each cursor in their order, and the cursors, each where its one was."""
    left, cursors, passed = row[:0], [], 0
    for begin, end in stretches:
        left = left + row[passed:max(begin, passed)]
        passed = max(end, passed)
        cursors.append(len(left))
    return (left + row[passed:], cursors)


def written(row, cursors, text):
    """A row with a text ahead of each cursor, and the cursors, each behind its own."""
    typed = text if isinstance(row, str) else list(text)
    made, places, passed = row[:0], [], 0
    for at in cursors:
        made = made + row[passed:at] + typed
        passed = at
        places.append(len(made))
    return (made + row[passed:], places)


def spread_cursors(many, bound):
    """All tuples of a size and so many cursors that are at most a bound apart, and from the ends."""
    rows = [[at] for at in range(bound + 1)]
    for _ in range(many - 1):
        rows = [row + [row[-1] + step] for row in rows for step in range(1, bound + 1)]
    return [(row[-1] + step, row) for row in rows for step in range(bound + 1)]


def reach_by(keys, words):
    """No farther off from the cursors, and from the ends, do keys reach by those with some words."""
    return sum([key[1] for key in keys if key[0] in words])


def first_unlike_at(one, other, number):
    """The least size with cursors, at most so many, at which keys have unlike effects, or None if there is none."""
    # Beyond what is reached from both sides signs just stay; of these, one is enough to tell what stands beside it.
    bound = max(reach_by(one, LEFTWARD), reach_by(other, LEFTWARD)) + 1
    bound += max(reach_by(one, RIGHTWARD), reach_by(other, RIGHTWARD))
    tried = sorted([found for many in range(1, number + 1) for found in spread_cursors(many, bound)])
    for size, cursors in tried:
        row = list(range(size))
        if press_at(row, cursors, one) != press_at(row, cursors, other):
            return (size, cursors)
    return None


def check_comparing(one, other, number):
    """Refuses what are no two lists of keys with a number of cursors."""
    check_keys(one)
    check_keys(other)
    check_within(number, 1, MOST_TRIED)


def alike_at(one, other, number):
    """Whether two lists of keys lead each text with at most so many cursors to the same ones."""
    check_comparing(one, other, number)
    return first_unlike_at(one, other, number) is None


def unlike_at(one, other, number):
    """A text of as few signs as possible, with at most so many cursors, for which keys are not alike, or None."""
    check_comparing(one, other, number)
    found = first_unlike_at(one, other, number)
    if found is None:
        return None
    size, cursors = found
    text = parting(effect_of(size, cursors, one)[0], effect_of(size, cursors, other)[0])
    # If no text parts the changes, the cursors are unlike behind each one.
    return ("a" * size if text is None else text, cursors)


def meet_within(keys):
    """The greatest number of gaps by which two cursors can be apart and become one; None if there is no greatest."""
    check_keys(keys)
    if any([key[0] in JUMPS for key in keys]):
        return None
    # Each key brings two cursors nearer by its number at most.
    reach = reach_of(keys)
    ends = 2 * reach + 2
    for gaps in reversed(range(1, reach + 1)):
        for ahead in range(ends):
            for behind in range(ends):
                row = list(range(ahead + gaps + behind))
                if len(press_at(row, [ahead, ahead + gaps], keys)[1]) == 1:
                    return gaps
    return 0
