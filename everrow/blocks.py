"""Blocks in which a journal is kept, and the states that are left when some are lost ([113], [114])."""

from everrow.chart import closed_down, numbers_in, whole_mask


class Blocks:
    """The blocks that the lines of deeds, by number, have characters in; it never changes."""

    def __init__(self, chart, lengths, size):
        self.chart = chart
        self.spans = {}
        begin = 0
        for number, length in lengths:
            self.spans[number] = (begin // size, (begin + length - 1) // size)
            begin += length
        self.many = (begin + size - 1) // size


def left_within(blocks, lost):
    """The mask of the state that is left when some blocks are lost."""
    mask = 0
    for number, (first, last) in blocks.spans.items():
        if not any([first <= block <= last for block in lost]):
            mask |= 1 << number
    return closed_down(blocks.chart, mask)


def blocks_but(blocks, kept):
    """The ascending list of all blocks but some."""
    return [block for block in range(blocks.many) if block not in kept]


def free_blocks(blocks, sure, mask):
    """The ascending list of the blocks that are not sure and have nothing of the lines of the deeds of a state."""
    kept = {block: True for block in sure}
    for number in numbers_in(mask):
        first, last = blocks.spans[number]
        for block in range(first, last + 1):
            kept[block] = True
    return blocks_but(blocks, kept)


def next_numbers(chart, mask):
    """The ascending list of the deeds next to a state."""
    others = numbers_in(whole_mask(chart) & ~mask)
    return [number for number in others if not chart.below[number] & ~mask]


def hits(blocks, sure, mask):
    """For as many deeds next to a state as lie apart from each other, a block whose loss takes each of them out.

    The loss of just these blocks leaves the state. It is a list of tuples of a block and a deed, or None if the
    state cannot be left.
    """
    free = free_blocks(blocks, sure, mask)
    stretches = []
    for number in next_numbers(blocks.chart, mask):
        first, last = blocks.spans[number]
        within = [block for block in free if first <= block <= last]
        if not within:
            return None
        stretches.append((within[-1], within[0], number))
    # Among the free blocks each deed has a stretch, so those that end first are hit as far back as can be.
    found = []
    for last, first, number in sorted(stretches):
        if not found or found[-1][0] < first:
            found.append((last, number))
    return found
