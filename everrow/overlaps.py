"""What two strings have in common at their ends."""


def cut_alike(one, other):
    """Two strings without what they have in common at the beginning."""
    same = 0
    while same < min(len(one), len(other)) and one[same] == other[same]:
        same += 1
    return (one[same:], other[same:])


def ends_in_common(one, other):
    """How many signs two strings have in common at the beginning, and how many of the rest at the end."""
    left, others = cut_alike(one, other)
    unlike = cut_alike(left[::-1], others[::-1])[0]
    return (len(one) - len(left), len(left) - len(unlike))
