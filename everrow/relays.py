"""Orders done sign by sign, each to what the one ahead gives on, and searches through all lines ([92], [93]).

Each order keeps back what later signs may still change: "replace" what may become an `old`, "last" its last signs;
"first" counts the signs that it has still to take away. There are few things that all orders of a list can have
kept, so all lines are gone through by these, from the least line on.
"""

from everrow.overlaps import cut_alike

LINE_SIGNS = " abcdefghijklmnopqrstuvwxyz"


class Relay:
    """Orders that pass signs on, one to the next; what it has worked out it keeps."""

    def __init__(self, orders):
        self.orders = orders
        self.steps = {}
        self.rests = {}

    def begin(self):
        """What the orders keep before any sign has come, and what they have given out."""
        kept = []
        given = ""
        for order in self.orders:
            held, given = passed_on(order, order[1] if order[0] == "first" else "", given)
            kept.append(held)
            if order[0] == "front":
                given = order[1] + given
        return (tuple(kept), given)

    def step(self, kept, sign):
        """What the orders keep behind one sign more, and what they give out for it."""
        if (kept, sign) not in self.steps:
            given = sign
            more = []
            for order, held in zip(self.orders, kept):
                held, given = passed_on(order, held, given)
                more.append(held)
            self.steps[(kept, sign)] = (tuple(more), given)
        return self.steps[(kept, sign)]

    def end(self, kept):
        """What the orders still give out when no sign comes any more."""
        if kept not in self.rests:
            given = ""
            for order, held in zip(self.orders, kept):
                held, given = passed_on(order, held, given)
                given += given_at_end(order, held)
            self.rests[kept] = given
        return self.rests[kept]


def passed_on(order, held, signs):
    """What an order keeps and what it gives on when it is given some signs."""
    given = ""
    for sign in signs:
        held, more = passed_sign(order, held, sign)
        given += more
    return (held, given)


def passed_sign(order, held, sign):
    """The same for one sign."""
    if order[0] == "replace":
        return passed_replace(order[1], order[2], held + sign)
    if order[0] == "letters":
        return (held, exchanged(order[1], sign))
    if order[0] == "first" and held > 0:
        return (held - 1, "")
    if order[0] == "last":
        row = held + sign
        gone = max(len(row) - order[1], 0)
        return (row[gone:], row[:gone])
    return (held, sign)


def passed_replace(old, new, row):
    """What "replace" keeps of a row of signs that it looks at, and what it gives on."""
    if row == old:
        return ("", new)
    held = begun_in(old, row)
    return (held, row[:len(row) - len(held)])


def begun_in(word, row):
    """The longest end of a row of signs with which a word begins."""
    begin = 0
    while not word.startswith(row[begin:]):
        begin += 1
    return row[begin:]


def exchanged(pairs, sign):
    """What "letters" makes of a sign."""
    for one, other in pairs:
        if one == sign:
            return other
    return sign


def given_at_end(order, held):
    """What an order gives on at the end of a line."""
    if order[0] == "replace":
        return held
    return order[1] if order[0] == "back" else ""


def signs_named(order):
    """The signs that an order names, as a string."""
    if order[0] == "letters":
        return "".join([one + other for one, other in order[1]])
    return "".join([part for part in order[1:] if isinstance(part, str)])


def signs_for(orders, line):
    """The signs of which the least line of some kind has to be made: those that are named, and two more.

    Orders treat all others alike, and the outcomes of two lists differ in one sign at one place: two are enough to
    tell whether that sign is the same.
    """
    named = line + "".join([signs_named(order) for order in orders])
    others = [sign for sign in LINE_SIGNS if sign not in named]
    return sorted(set(list(named) + others[:2]))


def least_unlike(one, other):
    """The least line out of which two lists of orders make unlike lines, or None if there is none."""
    relays = (Relay(one), Relay(other))
    signs = signs_for(one + other, "")
    reached = [("", begun_alike(relays))]
    met = {}
    # If what is given out is alike so far, what both keep tells how far the one is ahead of the other one.
    while reached:
        following = []
        for line, pair in reached:
            if do_part(relays, pair):
                return line
            if pair[:2] not in met:
                met[pair[:2]] = True
                following.extend([(line + sign, stepped_alike(relays, pair, sign)) for sign in signs])
        reached = following
    return None


def begun_alike(relays):
    """What two relays keep at the beginning, and what each has given out that the other one has not."""
    one, given = relays[0].begin()
    other, told = relays[1].begin()
    return (one, other) + cut_alike(given, told)


def stepped_alike(relays, pair, sign):
    """The same behind one sign more."""
    one, given = relays[0].step(pair[0], sign)
    other, told = relays[1].step(pair[1], sign)
    return (one, other) + cut_alike(pair[2] + given, pair[3] + told)


def do_part(relays, pair):
    """Whether two relays make unlike lines if no sign comes any more."""
    return pair[2] + relays[0].end(pair[0]) != pair[3] + relays[1].end(pair[1])


def least_source(orders, line):
    """The least line out of which orders make a line, or None if there is none."""
    return least_leading(orders, line, made_more, 0, len(line))


def made_more(line, many, given):
    """How many signs of a line are made with some that are given out, or None if these are not its next ones."""
    return many + len(given) if line[many:many + len(given)] == given else None


def least_showing(orders, word):
    """The least line such that a word stands in what orders make out of it, or None if there is none."""
    return least_leading(orders, word, spelled_more, "", word)


def spelled_more(word, begun, given):
    """With how much of a word ends what has been given out, with some signs more; all of it if it stands there."""
    for sign in given:
        if begun != word:
            begun = begun_in(word, begun + sign)
    return begun


def least_leading(orders, line, advance, start, goal):
    """The least line with which what is given out leads from a start to a goal, or None if there is none.

    How far it has led is told by a function, from how far it had led and what is given out; None is a dead end.
    """
    relay = Relay(orders)
    signs = signs_for(orders, line)
    kept, given = relay.begin()
    reached = [("", kept, advance(line, start, given))]
    met = {}
    while reached:
        following = []
        for source, kept, far in reached:
            if far is not None and (kept, far) not in met:
                met[(kept, far)] = True
                if advance(line, far, relay.end(kept)) == goal:
                    return source
                for sign in signs:
                    more, given = relay.step(kept, sign)
                    following.append((source + sign, more, advance(line, far, given)))
        reached = following
    return None
