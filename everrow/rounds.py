"""As few sendings as possible by which all hands come to have all deeds ([32])."""


def shortest_rounds(holdings):
    """The shortest list of tuples of a giving and a taking hand, of tuples of a hand and the names that it has."""
    hands = [hand for hand, _ in holdings]
    masks = masks_of([names for _, names in holdings])
    goal = goal_of(masks)
    # For each thing that the hands can come to have: the one ahead of it, and the giver and taker that led to it.
    came = {masks: None}
    reached = [masks]
    while goal not in came:
        following = []
        for held in reached:
            for giver, taker, more in givings(held):
                if more not in came:
                    came[more] = (held, hands[giver], hands[taker])
                    following.append(more)
        reached = following
    return traced(came, goal)


def masks_of(listed):
    """For each list of names a mask, with one bit for each name that stands in any of them."""
    bits = {}
    for names in listed:
        for name in names:
            bits.setdefault(name, 1 << len(bits))
    return tuple([sum([bits[name] for name in names]) for names in listed])


def goal_of(masks):
    """What the hands have when each has all that some hand has."""
    union = 0
    for mask in masks:
        union |= mask
    return (union,) * len(masks)


def givings(held):
    """For each way in which a hand can give all that it has: the giver, the taker, and what all have then."""
    found = []
    for giver, given in enumerate(held):
        for taker, owned in enumerate(held):
            if given & ~owned:
                found.append((giver, taker, held[:taker] + (owned | given,) + held[taker + 1:]))
    return found


def traced(came, goal):
    """The givings that led to a goal, the first one first."""
    found = []
    step = came[goal]
    while step is not None:
        found.append(step[1:])
        step = came[step[0]]
    return list(reversed(found))
