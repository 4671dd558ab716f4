"""What comes of the signs of a text in a table: which go, stay, come back to themselves, and how fast ([86], [87]).

A sign that comes back to itself lies on a ring. With one sign of its ring in its text it stands, turn by turn,
between what the ring has left on both sides; with two of them it bursts.
"""

GONE = -1


class Book:
    """The rules of a table for the signs that can come of a text; it never changes."""

    def __init__(self, table, text):
        rules = {sign: made for sign, made in table}
        # A sign that is not in the table stays, so it makes itself.
        self.rules = {sign: rules.get(sign, sign) for sign in signs_from(rules, text)}
        self.leads = {sign: signs_from(rules, made) for sign, made in self.rules.items()}


def signs_from(rules, text):
    """The list of the signs of a text and all that can come of them."""
    found = []
    coming = list(text)
    while coming:
        sign = coming.pop()
        if sign not in found:
            found.append(sign)
            coming.extend(list(rules.get(sign, "")))
    return found


def turned_once(rules, text):
    """The text behind one round."""
    return "".join([rules.get(sign, sign) for sign in text])


def turning_places(book, sign):
    """The places in what a sign makes at which signs lead back to it."""
    return [at for at, other in enumerate(book.rules[sign]) if sign in book.leads[other]]


def does_burst(book):
    """Whether some sign that can come of the text has two signs of its ring in what it makes."""
    return any([len(turning_places(book, sign)) > 1 for sign in book.rules])


def ring_of(book, sign):
    """The signs that come of a sign, turn by turn, until it is there again; none if it never is."""
    if sign not in book.leads[sign]:
        return []
    ring = [sign]
    follower = next_on_ring(book, sign)
    while follower != sign:
        ring.append(follower)
        follower = next_on_ring(book, follower)
    return ring


def next_on_ring(book, sign):
    """The sign of the ring in what a sign makes."""
    return book.rules[sign][turning_places(book, sign)[0]]


def left_of_ring(book, sign):
    """What a sign makes ahead of the sign of its ring."""
    return book.rules[sign][:turning_places(book, sign)[0]]


def right_of_ring(book, sign):
    """What a sign makes behind the sign of its ring."""
    return book.rules[sign][turning_places(book, sign)[0] + 1:]


def degree_of(book, text, known):
    """The least degree of a bound of the length of a text that does not burst, or GONE if nothing is left of it."""
    return max([degree_of_sign(book, sign, known) for sign in text], default=GONE)


def degree_of_sign(book, sign, known):
    """The same of a text of one sign; `known` keeps the answers."""
    if sign not in known:
        ring = ring_of(book, sign)
        if ring:
            # With each turn the ring leaves the same on its sides: what stays adds up to one degree more.
            sides = "".join([left_of_ring(book, other) + right_of_ring(book, other) for other in ring])
            known[sign] = degree_of(book, sides, known) + 1
        else:
            known[sign] = degree_of(book, book.rules[sign], known)
    return known[sign]
