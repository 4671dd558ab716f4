"""Trees of states: ways and what they cost, nodes that serve others, doors, grafts ([40] to [44])."""

from heapq import heappop, heappush

from everrow.chart import closed_up, names_in, shown_text, size_of
from everrow.checks import known_state, mask_if_state
from everrow.errors import InvalidItem, InvalidList, InvalidNumber, InvalidText, InvalidTree, UnknownName
from everrow.history import chart_of
from everrow.kinds import is_name, is_text, is_whole_from
from everrow.serving import fewest_serving, most_unserved

MOST_NODES = 10


class Tree:
    """States with names, each but the first one below another one; it never changes."""

    def __init__(self, history, rows):
        check_rows(chart_of(history), rows)
        self._history = history
        self._rows = [(name, parent, list(state)) for name, parent, state in rows]

    def __eq__(self, other):
        return isinstance(other, Tree) and self._history == other._history and self._rows == other._rows

    def history(self):
        """The history of the states."""
        return self._history

    def rows(self):
        """The list of the nodes: tuples of a name, the name of the parent, and a state."""
        return [(name, parent, list(state)) for name, parent, state in self._rows]


def check_rows(chart, rows):
    """Refuses what no tree can be made of."""
    if not isinstance(rows, list) or not 1 <= len(rows) <= MOST_NODES:
        raise InvalidList(rows)
    names = []
    for row in rows:
        if not is_row(chart, row, names):
            raise InvalidItem(row)
        names.append(row[0])


def is_row(chart, row, names):
    """Whether a value can be the next node behind those with some names."""
    if not isinstance(row, tuple) or len(row) != 3:
        return False
    name, parent, state = row
    if not is_name(name) or name in names or mask_if_state(chart, state) is None:
        return False
    return parent in names if names else parent is None


def check_tree(tree):
    """Refuses what is no tree."""
    if not isinstance(tree, Tree):
        raise InvalidTree(tree)


def names_of(tree):
    """The list of the names of the nodes."""
    return [row[0] for row in tree.rows()]


def known_node(tree, name):
    """The number of a node."""
    names = names_of(tree)
    if name not in names:
        raise UnknownName(name)
    return names.index(name)


def parents_of(tree):
    """For each node but the first one the number of its parent; None for the first one."""
    numbers = {None: None}
    parents = []
    for number, row in enumerate(tree.rows()):
        numbers[row[0]] = number
        parents.append(numbers[row[1]])
    return parents


def node_masks(tree):
    """For each node the mask of its state."""
    chart = chart_of(tree.history())
    return [known_state(chart, row[2]) for row in tree.rows()]


def state_of(tree, name):
    """The state of a node."""
    check_tree(tree)
    return tree.rows()[known_node(tree, name)][2]


def text_at(tree, name):
    """The text of the state of a node."""
    check_tree(tree)
    return node_texts(tree)[known_node(tree, name)]


def node_texts(tree):
    """For each node the text of its state."""
    chart = chart_of(tree.history())
    return [shown_text(chart, mask) for mask in node_masks(tree)]


def span(history, one, other):
    """How many deeds are in just one of two states."""
    chart = chart_of(history)
    mask = known_state(chart, one)
    return size_of(mask ^ known_state(chart, other))


def way_of(tree, one, other):
    """The list of the names of the nodes from one node to another one."""
    check_tree(tree)
    start = known_node(tree, one)
    names = names_of(tree)
    return [names[number] for number in way_between(parents_of(tree), start, known_node(tree, other))]


def way_up(parents, number):
    """The numbers of the nodes from one node up to the first one."""
    found = []
    while number is not None:
        found.append(number)
        number = parents[number]
    return found


def way_between(parents, start, end):
    """The numbers of the nodes from one node to another one."""
    rising = way_up(parents, start)
    falling = way_up(parents, end)
    top = [number for number in rising if number in falling][0]
    return rising[:rising.index(top) + 1] + list(reversed(falling[:falling.index(top)]))


def distances_of(parents, lengths):
    """For each node the list of its distances from all, if each node lies so far from its parent."""
    rows = [[0] * len(parents) for _ in parents]
    for number, parent in enumerate(parents):
        if parent is not None:
            for ahead in range(number):
                distance = rows[parent][ahead] + lengths[number]
                rows[number][ahead] = distance
                rows[ahead][number] = distance
    return rows


def cost_rows(tree):
    """For each node the list of the costs to all."""
    parents = parents_of(tree)
    masks = node_masks(tree)
    lengths = [0 if parent is None else size_of(mask ^ masks[parent]) for mask, parent in zip(masks, parents)]
    return distances_of(parents, lengths)


def cost(tree, one, other):
    """The sum of the spans along the way from one node to another one."""
    check_tree(tree)
    start = known_node(tree, one)
    return cost_rows(tree)[start][known_node(tree, other)]


def bent(tree):
    """The first two nodes between which the way costs more than the span of their states, or None."""
    check_tree(tree)
    names = names_of(tree)
    masks = node_masks(tree)
    rows = cost_rows(tree)
    for one in range(len(names)):
        for other in range(one + 1, len(names)):
            if rows[one][other] > size_of(masks[one] ^ masks[other]):
                return (names[one], names[other])
    return None


def check_bound(number):
    """Refuses what is no bound of a cost."""
    if not is_whole_from(number, 0):
        raise InvalidNumber(number)


def kept(tree, number):
    """As few nodes as possible, one of which serves each node within a cost."""
    check_tree(tree)
    check_bound(number)
    names = names_of(tree)
    return [names[node] for node in fewest_serving(cost_rows(tree), number)]


def unserved(tree, number):
    """As many nodes as possible, no two of which one node serves within a cost."""
    check_tree(tree)
    check_bound(number)
    names = names_of(tree)
    return [names[node] for node in most_unserved(cost_rows(tree), number)]


def doors(tree, one, text):
    """The least cost from a node to one with a text, with doors, and the names on a way with as few as possible."""
    check_tree(tree)
    start = known_node(tree, one)
    if not is_text(text):
        raise InvalidText(text)
    names = names_of(tree)
    found = cheapest_way(passages(tree), start, [shown == text for shown in node_texts(tree)])
    if found is None:
        return None
    return (found[0], [names[node] for node in found[1]])


def passages(tree):
    """For each node the list of tuples of a node to which one step leads from it, and what the step costs."""
    parents = parents_of(tree)
    shown = node_texts(tree)
    rows = cost_rows(tree)
    found = [[] for _ in parents]
    for here in range(len(parents)):
        for there in range(len(parents)):
            if here != there and shown[here] == shown[there]:
                found[here].append((there, 0))
            elif parents[here] == there or parents[there] == here:
                found[here].append((there, rows[here][there]))
    return found


def cheapest_way(steps, start, goals):
    """The tuple of the least cost to a goal and a way there with as few nodes as possible, or None."""
    queue = [(0, 1, [start])]
    done = {}
    while queue:
        total, many, names = heappop(queue)
        here = names[-1]
        if goals[here]:
            return (total, names)
        if here not in done:
            done[here] = True
            for there, price in steps[here]:
                heappush(queue, (total + price, many + 1, names + [there]))
    return None


def graft(history, base, tip, onto):
    """The least state that has all of a state and all deeds that a second one has and a third one has not."""
    chart = chart_of(history)
    root = known_state(chart, base)
    added = known_state(chart, tip) & ~root
    return names_in(chart, closed_up(chart, added | known_state(chart, onto)))
