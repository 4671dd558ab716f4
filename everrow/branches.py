"""Branches of outlines, told by their ends: for each line the number of the last line of its branch ([151]).

The branches of an outline lie within one another or apart: the end of a line is not behind those of the lines that it
is below. A shift "in" of a line makes the branch of one line ahead reach to that line's end: that of the last one
ahead that ends just ahead of it and is not deeper. So one outline comes out of another one by shifts "in" alone if no
line ends earlier.
"""


def ends_of(depths):
    """For each line of some depths the last line of its branch."""
    ends = []
    for line, depth in enumerate(depths):
        end = line
        while end + 1 < len(depths) and depths[end + 1] > depth:
            end += 1
        ends.append(end)
    return ends


def depths_of_ends(ends):
    """For each line how many lines ahead of it have it in their branches."""
    return [len([end for end in ends[:line] if end >= line]) for line in range(len(ends))]


def closed_over(ends):
    """The least ends, none less than some, with which branches lie within one another or apart."""
    found = list(ends)
    for line in reversed(range(len(ends))):
        below = line + 1
        while below <= found[line]:
            found[line] = max(found[line], found[below])
            below = found[below] + 1
    return found


def fewest_jumps(first, second):
    """As few lines as possible whose shifts "in", one behind the other, lead from some ends to others.

    Each shift lets one end jump over the branch behind it, and an end has to stop at the final end of each branch
    that it comes to whole. So it is as quick as can be if what it jumps over has its final end already: that is so
    for the last one of the ends that have still to move, and the least line with it has no line above that stops it.
    """
    ends = list(first)
    jumps = []
    moving = [line for line, end in enumerate(ends) if end < second[line]]
    while moving:
        last = max([ends[line] for line in moving])
        jumper = [line for line in moving if ends[line] == last][0]
        jumps.append(last + 1)
        ends[jumper] = ends[last + 1]
        moving = [line for line, end in enumerate(ends) if end < second[line]]
    return jumps


def counts_between(first, second):
    """How many ways the lines from one to another one can be branches of their own, their ends within two bounds.

    The answers stand by the numbers of the first and the last line; if this is just ahead of the first, by 1.
    """
    many = len(first)
    counts = {(line, line - 1): 1 for line in range(many + 1)}
    for line in reversed(range(many)):
        for last in range(line, many):
            total = 0
            for end in range(first[line], min(second[line], last) + 1):
                total += counts[(line + 1, end)] * counts[(end + 1, last)]
            counts[(line, last)] = total
    return counts


def depths_at(first, second, number):
    """The list of depths with a number, in Python's order, of those whose ends are within two bounds."""
    counts = counts_between(first, second)
    # The lines whose branches have not ended yet, each below the one ahead of it.
    above = [0]
    depths = [0]
    for line in range(1, len(first)):
        depth = 0
        many = how_many_on(first, second, counts, above, line, depth)
        while number >= many:
            number -= many
            depth += 1
            many = how_many_on(first, second, counts, above, line, depth)
        depths.append(depth)
        above = above[:depth] + [line]
    return depths


def how_many_on(first, second, counts, above, line, depth):
    """How many ways there are to go on with a line of a depth behind lines of which some have not ended yet."""
    for ended in above[depth:]:
        if not first[ended] <= line - 1 <= second[ended]:
            return 0
    # For each line that can be the last one so far: in how many ways it is, when all but some outer lines have ended.
    ways = {line: 1}
    for holder in reversed(above[:depth] + [line]):
        ways = ways_out(counts, ways, first[holder], second[holder])
    return sum([ways[end] * counts[(end + 1, len(first) - 1)] for end in ways])


def ways_out(counts, ways, least, most):
    """The same when one outer line more has ended, its end within two bounds."""
    found = {}
    for begun in ways:
        for end in range(max(least, begun), most + 1):
            found[end] = found.get(end, 0) + ways[begun] * counts[(begun + 1, end)]
    return found
