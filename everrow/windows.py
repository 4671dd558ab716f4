"""Windows: rooms of layouts at all sizes, rows followed at another width, and what windows see ([210] to [213])."""

from math import lcm

from everrow.demands import check_from, check_text, check_within
from everrow.display import rows_of, spot_of, starts_of
from everrow.errors import InvalidItem, InvalidLayout, InvalidList
from everrow.kinds import is_name, is_whole_from, is_whole_within
from everrow.sharing import least_shared, shared

MOST_WINDOWS = 8
DEEPEST = 4
GREATEST_WEIGHT = 9
ACROSS = "across"
DOWN = "down"


def is_part(value, depth):
    """Whether a value is a tuple of a weight and a layout that is within so many."""
    if not isinstance(value, tuple) or len(value) != 2 or not is_whole_within(value[0], 1, GREATEST_WEIGHT):
        return False
    return depth <= DEEPEST and is_form(value[1], depth)


def is_form(value, depth):
    """Whether a value, within so many parts, is a layout but for the number of its windows and their names."""
    if is_name(value):
        return True
    if not isinstance(value, tuple) or len(value) != 2 or value[0] not in (ACROSS, DOWN):
        return False
    if not isinstance(value[1], list) or not 2 <= len(value[1]) <= 4:
        return False
    return all([is_part(part, depth + 1) for part in value[1]])


def windows_in(layout):
    """The list of the names of the windows of a layout, as they stand there."""
    if is_name(layout):
        return [layout]
    return [name for _, part in layout[1] for name in windows_in(part)]


def check_layout(layout):
    """Refuses what is no layout, and returns the names of its windows."""
    if not is_form(layout, 0):
        raise InvalidLayout(layout)
    names = windows_in(layout)
    if len(names) > MOST_WINDOWS or len(set(names)) < len(names):
        raise InvalidLayout(layout)
    return names


def rooms(layout, width, height):
    """The list of the windows of a layout, each with where it is and what it takes of a width and a height."""
    check_layout(layout)
    check_from(width, 0)
    check_from(height, 0)
    return rooms_in(layout, 0, 0, width, height)


def rooms_in(layout, left, top, width, height):
    """The same of a layout that takes some room itself."""
    if is_name(layout):
        return [(layout, left, top, width, height)]
    word, parts = layout
    found = []
    for (_, part), size in zip(parts, shared(weights_of(parts), width if word == ACROSS else height)):
        if word == ACROSS:
            found.extend(rooms_in(part, left, top, size, height))
            left += size
        else:
            found.extend(rooms_in(part, left, top, width, size))
            top += size
    return found


def weights_of(parts):
    """The list of the weights of parts."""
    return [weight for weight, _ in parts]


def least_room(layout, wishes):
    """The tuple of the least width and the least height at which each window takes as much as is wished, or more."""
    names = check_layout(layout)
    if not isinstance(wishes, list):
        raise InvalidList(wishes)
    wished = {}
    for wish in wishes:
        if not is_wish(wish, names) or wish[0] in wished:
            raise InvalidItem(wish)
        wished[wish[0]] = wish
    return (least_size(layout, ACROSS, {name: wished[name][1] for name in wished}),
            least_size(layout, DOWN, {name: wished[name][2] for name in wished}))


def is_wish(value, names):
    """Whether a value is a tuple of one of some windows and two sizes."""
    if not isinstance(value, tuple) or len(value) != 3 or value[0] not in names:
        return False
    return is_whole_from(value[1], 0) and is_whole_from(value[2], 0)


def least_size(layout, word, wished):
    """The least size of a layout, in the direction of a word, at which its windows take what is wished."""
    if is_name(layout):
        return wished.get(layout, 0)
    parts = layout[1]
    sizes = [least_size(part, word, wished) for _, part in parts]
    if layout[0] != word:
        return max(sizes)
    weights = weights_of(parts)
    return max([least_shared(weights, part, size) for part, size in enumerate(sizes)])


def turn_of(layout, word):
    """By how much a size, in the direction of a word, grows until all in it has grown by what it always grows by."""
    if is_name(layout):
        return 1
    turn = 1
    for _, part in layout[1]:
        turn = lcm(turn, turn_of(part, word))
    return turn * sum(weights_of(layout[1])) if layout[0] == word else turn


def unlike_size(one, other):
    """The least number that as width and height gives a window unlike rooms in two layouts, or None."""
    names = check_layout(one)
    if sorted(names) != sorted(check_layout(other)):
        raise InvalidLayout(other)
    # Behind a turn of both each room has grown by the same as behind each other one.
    turns = [turn_of(layout, word) for layout in (one, other) for word in (ACROSS, DOWN)]
    for size in range(lcm(lcm(turns[0], turns[1]), lcm(turns[2], turns[3])) + 1):
        if sorted(rooms_in(one, 0, 0, size, size)) != sorted(rooms_in(other, 0, 0, size, size)):
            return size
    return None


def settling(text, width, other, row):
    """How often a row followed there and back at another width comes to another row, and the one where it stays."""
    check_text(text)
    check_from(width, 1)
    check_from(other, 1)
    here, there = rows_of(text, width, {}), rows_of(text, other, {})
    check_within(row, 0, len(here) - 1)
    times = 0
    back = followed(text, there, here, followed(text, here, there, row))
    # It never comes to a row farther down, so it comes to an end.
    while back != row:
        times += 1
        row = back
        back = followed(text, there, here, followed(text, here, there, row))
    return (times, row)


def followed(text, rows, others, row):
    """The one of other rows of a text that has the first place of one of its rows."""
    return spot_of(text, others, starts_of(text, rows)[row])[0]


def known_rows(text, width, height, places):
    """For each of a list of places the tuple of its row and itself."""
    check_text(text)
    check_from(width, 1)
    check_from(height, 1)
    if not isinstance(places, list):
        raise InvalidList(places)
    for place in places:
        if not is_whole_within(place, 0, len(text)):
            raise InvalidItem(place)
    rows = rows_of(text, width, {})
    return [(spot_of(text, rows, place)[0], place) for place in places]


def firsts_apart(spots, height):
    """Of some rows with places, in order, the first one, and each next one not seen from the one taken ahead."""
    found = []
    for row, place in sorted(spots):
        if not found or row >= found[-1][0] + height:
            found.append((row, place))
    return found


def covering(text, width, height, places):
    """An ascending list of as few rows as possible from one of which each place is seen."""
    return [row for row, _ in firsts_apart(known_rows(text, width, height, places), height)]


def scattered(text, width, height, places):
    """An ascending list of as many places as possible no two of which are seen from one row."""
    return [place for _, place in firsts_apart(known_rows(text, width, height, places), height)]
