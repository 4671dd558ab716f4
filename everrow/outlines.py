"""Outlines: lines under lines, shifts of branches, and what comes out of what by them ([150] to [152])."""

from everrow.automata import LINE_END
from everrow.branches import closed_over, counts_between, depths_at, depths_of_ends, ends_of, fewest_jumps
from everrow.changes import Change
from everrow.demands import check_within
from everrow.errors import InvalidItem, InvalidList, InvalidText
from everrow.kinds import is_text, is_whole_from

SHIFTS = ("in", "out")


def depth_of(line):
    """The number of blanks with which a line begins."""
    return len(line) - len(line.lstrip(" "))


def depths_of(text):
    """The list of the depths of the lines of a text."""
    return [depth_of(line) for line in text.split(LINE_END)]


def words_of(text):
    """The list of the words of the lines of a text."""
    return [line.lstrip(" ") for line in text.split(LINE_END)]


def outline_with(depths, words):
    """The outline whose lines have some depths and words."""
    return "\n".join([" " * depth + word for depth, word in zip(depths, words)])


def bare_outline(depths):
    """The outline without words whose lines have some depths."""
    return outline_with(depths, [""] * len(depths))


def is_outline(value):
    """Whether any value is an outline."""
    if not is_text(value):
        return False
    depths = depths_of(value)
    return depths[0] == 0 and all([depth <= ahead + 1 for ahead, depth in zip(depths, depths[1:])])


def is_shift(value):
    """Whether a value is a shift."""
    return isinstance(value, tuple) and len(value) == 2 and value[0] in SHIFTS and is_whole_from(value[1], 0)


def check_outline(outline):
    """Refuses what is no outline."""
    if not is_outline(outline):
        raise InvalidText(outline)


def check_kin(one, other):
    """Refuses what are no two outlines with the same words."""
    check_outline(one)
    if not is_outline(other) or words_of(one) != words_of(other):
        raise InvalidText(other)


def check_shift(shift):
    """Refuses what is no shift."""
    if not is_shift(shift):
        raise InvalidItem(shift)


def check_shifts(shifts):
    """Refuses what is no list of shifts."""
    if not isinstance(shifts, list):
        raise InvalidList(shifts)
    for shift in shifts:
        check_shift(shift)


def moves_of(depths, shift):
    """For each line of some depths by how much a shift makes it deeper."""
    word, line = shift
    moves = [0] * len(depths)
    if line >= len(depths):
        return moves
    if word == "in":
        can_move = line > 0 and depths[line] <= depths[line - 1]
    else:
        can_move = depths[line] > 0
    if can_move:
        for below in range(line, ends_of(depths)[line] + 1):
            moves[below] = 1 if word == "in" else -1
    return moves


def shifted_depths(depths, shifts):
    """What shifts make of depths, one behind the other."""
    for shift in shifts:
        depths = [depth + move for depth, move in zip(depths, moves_of(depths, shift))]
    return depths


def shifted(outline, shifts):
    """What a list of shifts makes of an outline, one behind the other."""
    check_outline(outline)
    check_shifts(shifts)
    return outline_with(shifted_depths(depths_of(outline), shifts), words_of(outline))


def shift_change(outline, shift):
    """The change that a shift makes, in which all signs are kept but the blanks that go."""
    check_outline(outline)
    check_shift(shift)
    row = []
    start = 0
    for line, move in zip(outline.split(LINE_END), moves_of(depths_of(outline), shift)):
        if start > 0:
            row.append(start - 1)
        if move > 0:
            row.append(" ")
        row.extend(list(range(start + 1 if move < 0 else start, start + len(line))))
        start += len(line) + 1
    return Change(len(outline), row)


def known_ends(one, other):
    """For each line of two kin outlines the last line of its branch, as two lists."""
    check_kin(one, other)
    return (ends_of(depths_of(one)), ends_of(depths_of(other)))


def are_deeper(first, second):
    """Whether each line has below it in the second outline what it has in the first one."""
    return all([end <= later for end, later in zip(first, second)])


def deeper(one, other):
    """Whether one outline comes out of another one by shifts "in" alone."""
    first, second = known_ends(one, other)
    return are_deeper(first, second)


def fewest_in(one, other):
    """As few shifts "in" as possible that lead from one outline to another one, or None if none do."""
    first, second = known_ends(one, other)
    if not are_deeper(first, second):
        return None
    return [("in", line) for line in fewest_jumps(first, second)]


def flatter(one, other):
    """The outline that comes out of each other one of those out of which two outlines come."""
    first, second = known_ends(one, other)
    # Branches of both lie within one another or apart, and so do what is in the branches of both.
    ends = [min(end, later) for end, later in zip(first, second)]
    return outline_with(depths_of_ends(ends), words_of(one))


def steeper(one, other):
    """The outline out of which each other one comes of those that come out of two outlines."""
    first, second = known_ends(one, other)
    ends = closed_over([max(end, later) for end, later in zip(first, second)])
    return outline_with(depths_of_ends(ends), words_of(one))


def how_many_outlines(one, other):
    """How many outlines come out of one outline such that another one comes out of them."""
    first, second = known_ends(one, other)
    return counts_between(first, second)[(0, len(first) - 1)]


def outline_at(one, other, number):
    """The one of these outlines with a number, as Python orders the lists of their depths."""
    check_within(number, 0, how_many_outlines(one, other) - 1)
    first, second = known_ends(one, other)
    return outline_with(depths_at(first, second, number), words_of(one))


def depth_lists(many):
    """The lists of the depths of all outlines of so many lines."""
    rows = [[0]]
    for _ in range(many - 1):
        rows = [row + [depth] for row in rows for depth in range(row[-1] + 2)]
    return rows


def unlike_outline(one, other):
    """An outline without words, of as few lines as possible, of which shifts make unlike ones, or None."""
    check_shifts(one)
    check_shifts(other)
    greatest = max([line for _, line in one + other], default=-2)
    for many in range(1, greatest + 3):
        for depths in depth_lists(many):
            if shifted_depths(depths, one) != shifted_depths(depths, other):
                return bare_outline(depths)
    return None
