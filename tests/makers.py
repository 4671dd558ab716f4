"""Histories to try things at, and values that are none of what they should be."""

from random import Random

from everrow.history import History

PLAIN = [
    ("put", (1, "ann"), None, "ab"),
    ("put", (2, "bob"), (1, "ann", 0), "x"),
    ("drop", (3, "ann"), [(1, "ann", 1)]),
]
NO_LISTS = [None, True, 0, "ab", (), ((1, "ann"),), {}, {"a": 1}]
NO_NAMES = [None, True, 1, "", "Ann", "a b", "abcdefghi", "a1", "\u00e4", "a\n", ["ann"], ("ann",), {"ann": 1}]
NO_NUMBERS = [None, True, False, "1", [1], (1,), {1: 1}]
NO_HISTORIES = [None, True, 3, "ann", [], PLAIN, (PLAIN,), {}]
NO_TEXTS = [None, True, 7, ["a"], ("a",), "A", "a.", "\t", "\u00e9", "a1", "~", {}]
NO_DEED_NAMES = [
    None, True, 1, "ann", [], (), (1,), [1, "ann"], (True, "ann"), ("1", "ann"), (1, "ann", 0), (1, ["ann"]),
    (9, "ann"), (1, "bob"), (0, "ann"), (1, None), ({}, "ann"), {},
]
NO_SIGN_NAMES = [
    None, True, 1, "a", [], (), (1, "ann"), [1, "ann", 0], (True, "ann", 0), (1, "ann", False), (1, "ann", 2),
    (1, "ann", -1), (1, "ann", 6), (3, "ann", 0), (9, "ann", 0), (1, ["ann"], 0), ((1, "ann"), 0), {},
]


def plain():
    return History(PLAIN)


def no_states():
    """Values that are no states of the plain history."""
    return [
        None, True, 3, "ann", (), ((1, "ann"),), {}, [None], [True], [[]], [(1, "bob")], [(True, "ann")], [[1, "ann"]],
        [(2, "bob")], [(1, "ann"), (1, "ann")], [(2, "bob"), (1, "ann")], [(1, "ann"), (3, "ann"), (2, "bob")],
        [(1, "ann"), (4, "ann")], plain(), [plain()],
    ]


def random_deeds(seed, many, letters="ab", drops=3, hands=("a", "b", "c"), longest=3):
    """So many deeds that fit, in any order; about one of `drops` is a drop."""
    chance = Random(seed)
    deeds, signs = [], []
    taken = set()
    while len(deeds) < many:
        is_drop = bool(signs) and chance.randrange(drops) == 0
        named = sorted(chance.sample(signs, min(len(signs), chance.choice([1, 1, 2, 3])))) if is_drop else []
        anchor = None if is_drop or not signs or chance.randrange(5) == 0 else chance.choice(signs)
        lowest = max([sign[0] for sign in named + ([anchor] if anchor else [])], default=0)
        name = (lowest + chance.choice([1, 1, 1, 2, 4]), chance.choice(hands))
        if name in taken:
            continue
        taken.add(name)
        if is_drop:
            deeds.append(("drop", name, named))
        else:
            text = "".join(chance.choice(letters) for _ in range(chance.randint(1, longest)))
            deeds.append(("put", name, anchor, text))
            signs.extend((*name, at) for at in range(len(text)))
    chance.shuffle(deeds)
    return deeds


def chain(many, text="a"):
    """Puts each of which hangs on the last sign of the one ahead: of any two states one has all of the other."""
    last = len(text) - 1
    return [("put", (k, "a"), (k - 1, "a", last) if k > 1 else None, text) for k in range(1, many + 1)]


def heap(many, text="a"):
    """Puts that rest on nothing: each set of them is a state."""
    return [("put", (k, "a"), None, text) for k in range(1, many + 1)]


def mixed(puts, drops, text="abcdef"):
    """Puts in a chain, and drops of one sign of each in turn."""
    made = [("drop", (puts + k, "b"), [((k - 1) % puts + 1, "a", (k + 1) % len(text))]) for k in range(1, drops + 1)]
    return chain(puts, text) + made
