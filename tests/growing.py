"""Trees to try things at, and what the document says of their ways, done by trying all."""

from itertools import combinations
from random import Random

from everrow.trees import Tree
from tests import naive
from tests.makers import plain

ANN, BOB, DROP = (1, "ann"), (2, "bob"), (3, "ann")
ROWS = [("top", None, []), ("one", "top", [ANN]), ("two", "one", [ANN, BOB]), ("three", "one", [ANN, DROP])]
# Not in the order of the alphabet, so that an order of names is not taken for the order of the nodes.
NAMES = ["m", "c", "z", "a", "q", "b", "y", "d", "x", "e"]
NO_TREES = [None, True, 0, "top", [], ROWS, (plain(), ROWS), {}, plain()]
NO_NODES = [None, True, 0, "", "Top", "zoe", ["top"], ("top",), {}, ("top", None, [])]


def plain_tree():
    return Tree(plain(), ROWS)


def random_tree(seed, many, deeds):
    """The rows of a tree of so many nodes with any states."""
    chance = Random(seed)
    states = naive.states(deeds)
    rows = [(NAMES[0], None, chance.choice(states))]
    for name in NAMES[1:many]:
        rows.append((name, chance.choice(rows)[0], chance.choice(states)))
    return rows


def near_tree(seed, many, deeds):
    """The same with states that are often but one deed away from the parent's."""
    chance = Random(seed)
    states = naive.states(deeds)
    rows = [(NAMES[0], None, chance.choice(states))]
    for name in NAMES[1:many]:
        parent = chance.choice(rows)
        close = [state for state in states if len(set(state) ^ set(parent[2])) <= 1]
        rows.append((name, parent[0], chance.choice(close)))
    return rows


def walk(rows, one, other):
    """The only way between two nodes that comes to none twice."""
    near = {name: [] for name, _, _ in rows}
    for name, parent, _ in rows[1:]:
        near[name].append(parent)
        near[parent].append(name)
    ways = [[one]]
    while True:
        for way in ways:
            if way[-1] == other:
                return way
        ways = [way + [name] for way in ways for name in near[way[-1]] if name not in way]


def walk_cost(rows, one, other, length):
    states = {name: state for name, _, state in rows}
    way = walk(rows, one, other)
    return sum(length(states[first], states[second]) for first, second in zip(way, way[1:]))


def spans(one, other):
    return len(set(one) ^ set(other))


def check_serving(case, rows, number, length, keeping, apart):
    """Holds that both lists are what they should be, and that no shorter or longer list is (by trying all)."""
    names = [row[0] for row in rows]
    served = {one: {other for other in names if walk_cost(rows, one, other, length) <= number} for one in names}
    case.assertEqual(keeping, [name for name in names if name in keeping])
    case.assertEqual(apart, [name for name in names if name in apart])
    case.assertEqual(set().union(*[served[name] for name in keeping]), set(names))
    case.assertTrue(all(not served[one] & served[other] for one, other in combinations(apart, 2)))
    case.assertEqual(len(keeping), len(apart))
    for chosen in combinations(names, len(keeping) - 1):
        case.assertNotEqual(set().union(*[served[name] for name in chosen]), set(names))
    for chosen in combinations(names, len(apart) + 1):
        case.assertTrue(any(served[one] & served[other] for one, other in combinations(chosen, 2)))
