"""Keys pressed on rows of signs, or on how many signs stand ahead of the cursor and behind it ([74], [78])."""

from everrow.kinds import MOST_SIGNS, is_text_within, is_whole_within

MOST_KEYS = 12
GREATEST_MOVE = 9
MOVES = ("left", "right", "rub", "cut")
JUMPS = ("first", "last")


def is_key(value):
    """Whether a value is a key."""
    if not isinstance(value, tuple) or not 1 <= len(value) <= 2:
        return False
    if len(value) == 1:
        return value[0] in JUMPS
    if value[0] == "write":
        return is_text_within(value[1], 1, MOST_SIGNS)
    return value[0] in MOVES and is_whole_within(value[1], 1, GREATEST_MOVE)


def are_keys(value):
    """Whether a value is a list of keys."""
    return isinstance(value, list) and len(value) <= MOST_KEYS and all([is_key(key) for key in value])


def press(row, at, keys):
    """What keys make of a text, or of a list of items, with a cursor: a tuple of both."""
    for key in keys:
        word = key[0]
        if word == "left":
            at = max(at - key[1], 0)
        elif word == "right":
            at = min(at + key[1], len(row))
        elif word == "rub":
            begin = max(at - key[1], 0)
            row, at = row[:begin] + row[at:], begin
        elif word == "cut":
            row = row[:at] + row[at + key[1]:]
        elif word == "write":
            typed = key[1] if isinstance(row, str) else list(key[1])
            row, at = row[:at] + typed + row[at:], at + len(typed)
        else:
            at = 0 if word == "first" else len(row)
    return (row, at)


def press_sides(sides, keys):
    """The numbers of signs ahead of the cursor and behind it, behind keys."""
    ahead, behind = sides
    for key in keys:
        word = key[0]
        if word == "left":
            step = min(ahead, key[1])
            ahead, behind = ahead - step, behind + step
        elif word == "right":
            step = min(behind, key[1])
            ahead, behind = ahead + step, behind - step
        elif word == "rub":
            ahead = max(ahead - key[1], 0)
        elif word == "cut":
            behind = max(behind - key[1], 0)
        elif word == "write":
            ahead += len(key[1])
        else:
            ahead, behind = (0, ahead + behind) if word == "first" else (ahead + behind, 0)
    return (ahead, behind)


def reach_of(keys):
    """The sum of the numbers of keys: no farther off from the cursor, and from the ends, do they reach."""
    return sum([key[1] for key in keys if key[0] in MOVES])


def steady_sides(sides, keys):
    """How often keys are pressed until the sides change by the same numbers for ever, and the sides then and next.

    How they change depends on how many signs there are on each side, as far as the keys reach. If that stays, and
    the sides change by the same numbers twice, neither getting shorter, nothing can be otherwise later on.
    """
    bound = reach_of(keys) + 1
    times = 0
    rows = [sides, press_sides(sides, keys)]
    rows.append(press_sides(rows[-1], keys))
    while not are_steady(rows, bound):
        rows = rows[1:] + [press_sides(rows[-1], keys)]
        times += 1
    return (times, rows[0], rows[1])


def are_steady(rows, bound):
    """Whether three pairs of sides behind one another show that they change alike for ever."""
    if rows[0] == rows[1]:
        return True
    for first, second, third in zip(rows[0], rows[1], rows[2]):
        if second - first != third - second or second < first:
            return False
        if min(first, bound) != min(third, bound):
            return False
    return True
