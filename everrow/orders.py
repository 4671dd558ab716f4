"""Orders on lines: what they make, and what can be told of them for all lines ([90] to [93])."""

from everrow.errors import InvalidItem, InvalidList, InvalidText
from everrow.kinds import is_whole_within
from everrow.relays import LINE_SIGNS, least_showing, least_source, least_unlike

LONGEST_PART = 3
MOST_TAKEN = 2
LONGEST_SHOWN = 4


def is_line(value):
    """Whether a value is a line."""
    return isinstance(value, str) and all([sign in LINE_SIGNS for sign in value])


def is_line_within(value, least, most):
    """Whether a value is a line with a number of signs from one bound to another one."""
    return is_line(value) and least <= len(value) <= most


def is_order(value):
    """Whether a value is an order."""
    if not isinstance(value, tuple) or not 2 <= len(value) <= 3:
        return False
    if value[0] == "replace":
        if len(value) != 3:
            return False
        return is_line_within(value[1], 1, LONGEST_PART) and is_line_within(value[2], 0, LONGEST_PART)
    if len(value) != 2:
        return False
    if value[0] in ("front", "back"):
        return is_line_within(value[1], 0, LONGEST_PART)
    if value[0] in ("first", "last"):
        return is_whole_within(value[1], 0, MOST_TAKEN)
    return value[0] == "letters" and are_pairs(value[1])


def are_pairs(value):
    """Whether a value is a list of tuples of two signs of lines, the first ones different."""
    if not isinstance(value, list) or not all([is_pair(pair) for pair in value]):
        return False
    return len({one: True for one, _ in value}) == len(value)


def is_pair(value):
    """Whether a value is a tuple of two signs of lines."""
    return isinstance(value, tuple) and len(value) == 2 and all([is_line_within(sign, 1, 1) for sign in value])


def check_orders(orders):
    """Refuses what are no orders."""
    if not isinstance(orders, list):
        raise InvalidList(orders)
    for order in orders:
        if not is_order(order):
            raise InvalidItem(order)


def check_line(line):
    """Refuses what is no line."""
    if not is_line(line):
        raise InvalidText(line)


def played(orders, line):
    """What orders make out of a line, one after another."""
    check_orders(orders)
    check_line(line)
    for order in orders:
        line = ordered_line(order, line)
    return line


def ordered_line(order, line):
    """What one order makes out of a line."""
    word, part = order[0], order[1]
    if word == "replace":
        return line.replace(part, order[2])
    if word == "front":
        return part + line
    if word == "back":
        return line + part
    if word == "first":
        return line[part:]
    if word == "last":
        return line[:max(len(line) - part, 0)]
    table = {one: other for one, other in part}
    return "".join([table.get(sign, sign) for sign in line])


def unlike_line(one, other):
    """The least line out of which two lists of orders make unlike lines, or None if there is none."""
    check_orders(one)
    check_orders(other)
    return least_unlike(one, other)


def alike_lines(one, other):
    """Whether two lists of orders make the same out of each line."""
    return unlike_line(one, other) is None


def commute_lines(one, other):
    """Whether the same comes out of each line whichever of two lists of orders is done first."""
    check_orders(one)
    check_orders(other)
    return least_unlike(one + other, other + one) is None


def idle_lines(orders):
    """Whether orders change no line."""
    check_orders(orders)
    return least_unlike(orders, []) is None


def settled(orders):
    """Whether orders, done twice, make the same out of each line as done once."""
    check_orders(orders)
    return least_unlike(orders, orders + orders) is None


def undoes(one, other):
    """Whether orders give back each line out of what other orders have made of it."""
    check_orders(one)
    check_orders(other)
    return least_unlike(one + other, []) is None


def source(orders, line):
    """The least line out of which orders make a line, or None if there is none."""
    check_orders(orders)
    check_line(line)
    return least_source(orders, line)


def shows(orders, word):
    """The least line such that a word stands in what orders make out of it, or None if there is none."""
    check_orders(orders)
    if not is_line_within(word, 1, LONGEST_SHOWN):
        raise InvalidText(word)
    return least_showing(orders, word)
