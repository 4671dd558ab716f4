"""What the document says, done by trying all: slow, plain, and without a line of the package.

Deeds are lists of deeds here, and states are lists of deed names in order.
"""

from itertools import combinations


def name_of(deed):
    return deed[1]


def named(deed):
    if deed[0] == "drop":
        return list(deed[2])
    return [deed[2]] if deed[2] is not None else []


def signs(deeds):
    """Each sign name with its sign."""
    return {(*deed[1], at): sign for deed in deeds if deed[0] == "put" for at, sign in enumerate(deed[3])}


def rests_on(deeds):
    """For each deed name the set of the names of all on which it rests."""
    found = {deed[1]: {sign[:2] for sign in named(deed)} for deed in deeds}
    for _ in deeds:
        found = {name: below.union(*[found[other] for other in below]) for name, below in found.items()}
    return found


def is_closed(deeds, names):
    below = rests_on(deeds)
    return all(below[name] <= set(names) for name in names)


def states(deeds):
    """All states, in order."""
    below = rests_on(deeds)
    names = sorted(below)
    found = [
        list(chosen)
        for size in range(len(names) + 1)
        for chosen in combinations(names, size)
        if all(below[name] <= set(chosen) for name in chosen)
    ]
    return sorted(found)


def row(deeds):
    """The ever-row, just as [13] tells it."""
    hangs = {}
    for deed in deeds:
        if deed[0] == "put":
            for at in range(len(deed[3])):
                holder = deed[2] if at == 0 else (*deed[1], at - 1)
                hangs.setdefault(holder, []).append((*deed[1], at))

    def followed(sign):
        found = [] if sign is None else [sign]
        for other in sorted(hangs.get(sign, []), key=lambda item: item[:2], reverse=True):
            found.extend(followed(other))
        return found

    return followed(None)


def seen(deeds, state):
    dropped = {sign for deed in deeds if deed[0] == "drop" and deed[1] in state for sign in deed[2]}
    return [sign for sign in row(deeds) if sign[:2] in state and sign not in dropped]


def text(deeds, state):
    known = signs(deeds)
    return "".join(known[sign] for sign in seen(deeds, state))


def all_seen(deeds):
    """All states with the signs seen in them, as tuples."""
    return [(state, seen(deeds, state)) for state in states(deeds)]


def least(found):
    """The states among some with as few deeds as can be."""
    fewest = min(len(state) for state in found)
    return [state for state in found if len(state) == fewest]


def greatest(found):
    """The one of some states that has all deeds of each other one, or None if there are no states at all."""
    if not found:
        return None
    tops = [state for state in found if all(set(other) <= set(state) for other in found)]
    assert len(tops) == 1, "the document says that there is one"
    return tops[0]


def stands(deeds, shown, line):
    """Whether a line stands where just these signs are seen."""
    order = row(deeds)
    amid = order[order.index(line[0]):order.index(line[-1]) + 1]
    return [sign for sign in shown if sign in amid] == line


def lines(deeds, most):
    """All lines of at most so many signs."""
    order = row(deeds)
    return [list(chosen) for size in range(1, most + 1) for chosen in combinations(order, size)]
