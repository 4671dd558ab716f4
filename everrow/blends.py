"""Costs by signs, blends of states, and where in a tree deeds come and go ([45] to [47])."""

from everrow.chart import closed_down, names_in, seen_places
from everrow.checks import known_deed, known_state
from everrow.history import chart_of
from everrow.serving import fewest_serving, most_unserved
from everrow.trees import check_bound, check_tree, distances_of, known_node, names_of, node_masks, parents_of, way_up


def unlike_signs(chart, first, second):
    """How many signs are seen in just one of two states."""
    shown = seen_places(chart, first)
    others = seen_places(chart, second)
    shared = len([place for place in shown if place in others])
    return len(shown) + len(others) - 2 * shared


def sign_span(history, one, other):
    """How many signs are seen in just one of two states."""
    chart = chart_of(history)
    mask = known_state(chart, one)
    return unlike_signs(chart, mask, known_state(chart, other))


def sign_cost_rows(tree):
    """For each node the list of the costs by signs to all."""
    chart = chart_of(tree.history())
    parents = parents_of(tree)
    masks = node_masks(tree)
    lengths = [0]
    for mask, parent in list(zip(masks, parents))[1:]:
        lengths.append(unlike_signs(chart, mask, masks[parent]))
    return distances_of(parents, lengths)


def sign_cost(tree, one, other):
    """The sum of the spans by signs along the way from one node to another one."""
    check_tree(tree)
    start = known_node(tree, one)
    return sign_cost_rows(tree)[start][known_node(tree, other)]


def kept_by_signs(tree, number):
    """As few nodes as possible, one of which serves each node within a cost by signs."""
    check_tree(tree)
    check_bound(number)
    names = names_of(tree)
    return [names[node] for node in fewest_serving(sign_cost_rows(tree), number)]


def unserved_by_signs(tree, number):
    """As many nodes as possible, no two of which one node serves within a cost by signs."""
    check_tree(tree)
    check_bound(number)
    names = names_of(tree)
    return [names[node] for node in most_unserved(sign_cost_rows(tree), number)]


def wished(base, one, other):
    """The mask of the deeds that two states both have, or that one of them has and their base has not."""
    return one & other | (one | other) & ~base


def wished_of(chart, base, one, other):
    """The same of three states that are still lists, each refused if it is none."""
    root = known_state(chart, base)
    first = known_state(chart, one)
    return wished(root, first, known_state(chart, other))


def blend(history, base, one, other):
    """The state with as many as possible of what two states share or have put in since their base."""
    chart = chart_of(history)
    return names_in(chart, closed_down(chart, wished_of(chart, base, one, other)))


def unblended(history, base, one, other):
    """The list, in order, of the names of the deeds that would be in the blend if what they rest on were."""
    chart = chart_of(history)
    mask = wished_of(chart, base, one, other)
    return names_in(chart, mask & ~closed_down(chart, mask))


def last_shared(tree, one, other):
    """The number of the last node on both ways from the first node."""
    parents = parents_of(tree)
    start = way_up(parents, known_node(tree, one))
    end = way_up(parents, known_node(tree, other))
    return [number for number in start if number in end][0]


def common(tree, one, other):
    """The name of the last node that lies on both ways from the first node to two nodes."""
    check_tree(tree)
    return names_of(tree)[last_shared(tree, one, other)]


def blended(tree, one, other):
    """The blend of the states of two nodes, with that of their last common node as base."""
    check_tree(tree)
    base = last_shared(tree, one, other)
    masks = node_masks(tree)
    chart = chart_of(tree.history())
    mask = wished(masks[base], masks[known_node(tree, one)], masks[known_node(tree, other)])
    return names_in(chart, closed_down(chart, mask))


def turns(tree, name):
    """The list of the names of the nodes between which and their parents a deed comes or goes."""
    check_tree(tree)
    number = known_deed(chart_of(tree.history()), name)
    masks = node_masks(tree)
    found = []
    for node, mask, parent in list(zip(names_of(tree), masks, parents_of(tree)))[1:]:
        if (mask ^ masks[parent]) >> number & 1:
            found.append(node)
    return found


def holding(tree, name):
    """The list of the names of the nodes whose states have a deed."""
    check_tree(tree)
    number = known_deed(chart_of(tree.history()), name)
    return [node for node, mask in zip(names_of(tree), node_masks(tree)) if mask >> number & 1]
