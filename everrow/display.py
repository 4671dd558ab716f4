"""What a screen shows of a text: pieces of lines, folds, places, widths, scrolling ([100] to [104])."""

from everrow.demands import check_from, check_text, check_within
from everrow.errors import InvalidList, InvalidNumber
from everrow.kinds import is_whole, is_whole_within
from everrow.orders import check_line

LINE_END = "\n"


def chunks_of(line):
    """The chunks of a line: words, each with the blank behind it, and all other blanks."""
    chunks = [word + " " for word in line.split(" ")]
    # Behind the last word there is no blank, and perhaps no word either.
    last = chunks.pop()[:-1]
    return chunks + [last] if last else chunks


def pieces_of(line, width):
    """The pieces of a line."""
    rows = [""]
    for chunk in chunks_of(line):
        if rows[-1] and len(rows[-1]) + len(chunk) > width:
            rows.append(chunk)
        else:
            rows[-1] += chunk
    return rows


def pieces(line, width):
    """The list of the pieces of a line at a width."""
    check_line(line)
    check_from(width, 1)
    return pieces_of(line, width)


def are_folds(value, many):
    """Whether a value is a list of folds of so many lines."""
    if not isinstance(value, list) or not all([is_fold(fold, many) for fold in value]):
        return False
    # In this order each fold has to lie within or behind those ahead of it that are still open.
    ends = []
    last = -1
    for begin, end in sorted(value):
        if begin == last:
            return False
        last = begin
        while ends and ends[-1] < begin:
            ends.pop()
        if ends and ends[-1] < end:
            return False
        ends.append(end)
    return True


def is_fold(value, many):
    """Whether a value is a tuple of the numbers of two of so many lines."""
    if not isinstance(value, tuple) or len(value) != 2 or not is_whole(value[0]):
        return False
    return value[0] >= 0 and is_whole_within(value[1], value[0] + 1, many - 1)


def rows_of(text, width, hidden):
    """The rows of all lines of a text but those that are hidden."""
    rows = []
    for number, line in enumerate(text.split(LINE_END)):
        start = 0
        if number not in hidden:
            for piece in pieces_of(line, width):
                rows.append((number, start, piece))
                start += len(piece)
    return rows


def screen(text, width, folds=None):
    """The list of all pieces that no fold hides, with their lines and where in these they begin."""
    check_text(text)
    check_from(width, 1)
    if folds is None:
        return rows_of(text, width, {})
    if not are_folds(folds, text.count(LINE_END) + 1):
        raise InvalidList(folds)
    hidden = {number: True for first, last in folds for number in range(first + 1, last + 1)}
    return rows_of(text, width, hidden)


def starts_of(text, rows):
    """The places of a text at which rows begin."""
    lines = [0]
    for line in text.split(LINE_END):
        lines.append(lines[-1] + len(line) + 1)
    return [lines[number] + start for number, start, _ in rows]


def spot_of(text, rows, place):
    """The row of a place, and how many signs of the row are ahead of it."""
    ahead = [start for start in starts_of(text, rows) if start <= place]
    return (len(ahead) - 1, place - ahead[-1])


def place_in(text, rows, row, column):
    """The place at a column of a row, or the greatest one of the row."""
    starts = starts_of(text, rows)
    # Behind the last row of a line the next row begins behind the line end.
    end = starts[row + 1] if row + 1 < len(rows) else len(text) + 1
    return min(starts[row] + column, end - 1)


def spot(text, width, place):
    """The tuple of the row and the column of a place of a text."""
    check_text(text)
    check_from(width, 1)
    check_within(place, 0, len(text))
    return spot_of(text, rows_of(text, width, {}), place)


def place_at(text, width, row, column):
    """The place of a row and a column, or the greatest one of the row."""
    check_text(text)
    check_from(width, 1)
    rows = rows_of(text, width, {})
    check_within(row, 0, len(rows) - 1)
    check_from(column, 0)
    return place_in(text, rows, row, column)


def stepped(text, width, place, rows, column):
    """The place at a column of the row that is so many rows behind that of a place, as far as there are rows."""
    check_text(text)
    check_from(width, 1)
    check_within(place, 0, len(text))
    if not is_whole(rows):
        raise InvalidNumber(rows)
    check_from(column, 0)
    shown = rows_of(text, width, {})
    row = min(max(spot_of(text, shown, place)[0] + rows, 0), len(shown) - 1)
    return place_in(text, shown, row, column)


def longest_line(text):
    """The number of signs of the longest line, at least 1: at greater widths the rows are the same."""
    return max([len(line) for line in text.split(LINE_END)] + [1])


def row_counts(text):
    """The numbers of rows at the widths from 1 on, up to the one at which each line is one row."""
    return [len(rows_of(text, width, {})) for width in range(1, longest_line(text) + 1)]


def least_width(text, height):
    """The least width at which a text has at most so many rows, or None if there is none."""
    check_text(text)
    check_from(height, 1)
    fitting = [number + 1 for number, count in enumerate(row_counts(text)) if count <= height]
    return fitting[0] if fitting else None


def widths(text):
    """The ascending list of the widths at which a text has fewer rows than at those that are one less."""
    check_text(text)
    counts = row_counts(text)
    return [number + 2 for number, count in enumerate(counts[1:]) if count < counts[number]]


def smooth(line, width):
    """The least roughness of a way of cutting a line, and where the stretches of such a way begin."""
    check_line(line)
    check_from(width, 1)
    chunks = chunks_of(line)
    # For each number of chunks the best way of cutting those behind them.
    ways = {len(chunks): (0, [])}
    for begin in reversed(range(len(chunks))):
        ways[begin] = smoothest(chunks, begin, width, ways)
    roughness, begins = ways[0]
    return (roughness, [len("".join(chunks[:begin])) for begin in begins] if begins else [0])


def smoothest(chunks, begin, width, ways):
    """The best way of cutting chunks from one on: the roughness, and which chunks begin the stretches."""
    found = []
    length = 0
    for end in range(begin + 1, len(chunks) + 1):
        length += len(chunks[end - 1])
        if length <= width or end == begin + 1:
            lacking = 0 if end == len(chunks) else max(width - length, 0)
            found.append((lacking * lacking + ways[end][0], [begin] + ways[end][1]))
    return min(found)


def scrolled(rows, top, height, row):
    """The first row to be shown in a window, nearest to one, so that a row is shown and no room is left."""
    check_from(rows, 1)
    check_within(top, 0, rows - 1)
    check_from(height, 1)
    check_within(row, 0, rows - 1)
    return min(max(top, row - height + 1), row, max(rows - height, 0))


def ends_alike(one, other, width):
    """How many of the last pieces of two lines are the same, one by one from the end."""
    check_line(one)
    check_line(other)
    check_from(width, 1)
    first = pieces_of(one, width)
    second = pieces_of(other, width)
    many = 0
    while many < min(len(first), len(second)) and first[-1 - many] == second[-1 - many]:
        many += 1
    return many
