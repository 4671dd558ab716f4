"""Two changes of one text at once, and three texts of which two come from the first one ([140], [141])."""

from everrow.automata import LINE_END
from everrow.changes import Change, row_of_change, stretches
from everrow.errors import InvalidChange, InvalidText
from everrow.kinds import is_text, is_whole

MOST_LINES = 5


def check_both(one, other):
    """Refuses what are no two changes of one size."""
    row_of_change(one)
    row_of_change(other)
    if one.size != other.size:
        raise InvalidChange(other)


def stretch_ends(change):
    """For each stretch of signs of a change the numbers just ahead of it and just behind it."""
    return [(lower, higher) for lower, higher, _ in stretches(change.row(), change.size)]


def rubbing_ends(one, other):
    """The list, in order, of the numbers about each stretch of one change and each of another one that rub."""
    found = []
    for lower, higher in stretch_ends(one):
        for least, most in stretch_ends(other):
            if max(lower, least) < min(higher, most):
                found.append((lower, higher, least, most))
    return found


def rubbing(one, other):
    """The list, in order, of tuples of the numbers about two stretches, one of each change, that rub."""
    check_both(one, other)
    return rubbing_ends(one, other)


def both(one, other):
    """The change that does what two changes do, or None if some of their stretches rub."""
    check_both(one, other)
    if rubbing_ends(one, other):
        return None
    return Change(one.size, laid(one, other, other.row()))


def over(one, other):
    """What is left to do of one change behind another one, or None if some of their stretches rub."""
    check_both(one, other)
    if rubbing_ends(one, other):
        return None
    size = len(other.row())
    return Change(size, laid(one, other, list(range(size))))


def laid(one, other, worths):
    """A row of the signs of one change and, among them, a worth for each item of another one.

    The numbers that the first one has not are left out.
    """
    kept = one.row()
    pieces = [(key, item) for key, item in zip(order_keys(one), kept) if not is_whole(item)]
    for key, item, worth in zip(order_keys(other), other.row(), worths):
        if not is_whole(item) or item in kept:
            pieces.append((key, worth))
    return [worth for _, worth in sorted(pieces, key=lambda piece: piece[0])]


def order_keys(change):
    """For each item of a change what tells its place among those of both: signs come ahead of their higher number."""
    keys = []
    higher = change.size
    for item in reversed(change.row()):
        if is_whole(item):
            higher = item
        keys.append((higher, is_whole(item)))
    return list(reversed(keys))


def check_lines(text):
    """Refuses what is no text of so few lines."""
    if not is_text(text) or text.count(LINE_END) >= MOST_LINES:
        raise InvalidText(text)


def merges(elder, one, other):
    """The list, in order, of the texts told by the frames that go."""
    for text in (elder, one, other):
        check_lines(text)
    rows = [text.split(LINE_END) for text in (elder, one, other)]
    return sorted(["\n".join(lines) for lines in told_from(rows, (0, 0, 0), {})])


def told_from(rows, gaps, known):
    """The lines, as tuples, that frames tell from a gap of each of three rows on; `known` keeps the answers."""
    if gaps in known:
        return known[gaps]
    found = {}
    last = agreed([row[gap:] for row, gap in zip(rows, gaps)])
    if last is not None:
        found[tuple(last)] = True
    for frame in equal_lines(rows, gaps):
        piece = agreed([row[gap:at] for row, gap, at in zip(rows, gaps, frame)])
        if piece is not None:
            begun = tuple(piece) + (rows[0][frame[0]],)
            for lines in told_from(rows, tuple([at + 1 for at in frame]), known):
                found[begun + lines] = True
    known[gaps] = list(found)
    return known[gaps]


def equal_lines(rows, gaps):
    """All tuples of numbers of equal lines of three rows that lie behind some gaps."""
    elder, one, other = rows
    return [(i, j, k) for i in range(gaps[0], len(elder)) for j in range(gaps[1], len(one))
            for k in range(gaps[2], len(other)) if elder[i] == one[j] == other[k]]


def agreed(pieces):
    """What three pieces of lines tell, if two of them are equal, or None."""
    elder, one, other = pieces
    if elder == one:
        return other
    return one if other in (elder, one) else None
