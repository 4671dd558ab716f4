"""Nodes of a tree that serve one another within a distance: as few as reach all, as many as lie apart ([42])."""

from everrow.chart import numbers_in, size_of


def served_masks(distances, most):
    """For each node the mask of the nodes within a distance of it."""
    served = []
    for row in distances:
        mask = 0
        for node, distance in enumerate(row):
            if distance <= most:
                mask |= 1 << node
        served.append(mask)
    return served


def fewest_serving(distances, most):
    """The ascending list of as few nodes as possible that serve all."""
    served = served_masks(distances, most)
    best = (1 << len(served)) - 1
    for chosen in range(1, 1 << len(served)):
        if size_of(chosen) < size_of(best) and serves_all(served, chosen):
            best = chosen
    return numbers_in(best)


def serves_all(served, chosen):
    """Whether each node is served by one of those in a mask."""
    union = 0
    for node in numbers_in(chosen):
        union |= served[node]
    return union == (1 << len(served)) - 1


def most_unserved(distances, most):
    """The ascending list of as many nodes as possible no two of which are served by one node."""
    served = served_masks(distances, most)
    best = 0
    for chosen in range(1 << len(served)):
        if size_of(chosen) > size_of(best) and lie_apart(served, chosen):
            best = chosen
    return numbers_in(best)


def lie_apart(served, chosen):
    """Whether no two of the nodes in a mask are served by one node; a node serves those that serve it."""
    union = 0
    for node in numbers_in(chosen):
        if union & served[node]:
            return False
        union |= served[node]
    return True
