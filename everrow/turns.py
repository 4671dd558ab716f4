"""How many signs stand in a text behind many rounds, and which sign stands at a place ([86]).

For each sign of a book a vector tells how many signs come of it behind some rounds, and under "<" and the sign how
many of them stand ahead of the sign of its ring. A matrix tells a vector from the one of fewer rounds.
"""

from everrow.rings import does_burst, left_of_ring, next_on_ring, right_of_ring, ring_of

LEFT = "<"


def sign_rows(book):
    """The matrix of one round for all signs."""
    return {sign: counts_of(made) for sign, made in book.rules.items()}


def counts_of(text):
    """How often each sign stands in a text."""
    counts = {}
    for sign in text:
        counts[sign] = counts.get(sign, 0) + 1
    return counts


def side_rows(book):
    """The matrix of one round for all signs and for the left sides of those on rings."""
    rows = sign_rows(book)
    for sign in book.rules:
        if ring_of(book, sign):
            row = counts_of(left_of_ring(book, sign))
            row[LEFT + next_on_ring(book, sign)] = 1
            rows[LEFT + sign] = row
    return rows


def applied(matrix, vector):
    """The vector of more rounds that a matrix tells."""
    return {key: sum([many * vector[other] for other, many in row.items()]) for key, row in matrix.items()}


def squared(matrix):
    """The matrix of twice as many rounds."""
    found = {}
    for key, row in matrix.items():
        more = {}
        for other, many in row.items():
            for third, times in matrix[other].items():
                more[third] = more.get(third, 0) + many * times
        found[key] = more
    return found


def doublings(matrix, rounds):
    """The matrices of 1, 2, 4 and more rounds, as many as it takes to add up to so many."""
    found = []
    while len(found) < rounds.bit_length():
        found.append(squared(found[-1]) if found else matrix)
    return found


def vector_after(matrices, vector, rounds):
    """The vector of so many rounds more."""
    for number, matrix in enumerate(matrices):
        if rounds >> number & 1:
            vector = applied(matrix, vector)
    return vector


def many_after(book, text, rounds, counted):
    """How many of some signs stand in a text behind so many rounds."""
    matrices = doublings(sign_rows(book), rounds)
    vector = vector_after(matrices, {sign: 1 if sign in counted else 0 for sign in book.rules}, rounds)
    return sum([vector[sign] for sign in text])


def part_at(text, vector, place):
    """The sign of a text of which the sign at a place has come, and the place in what has come of it."""
    for sign in text:
        if place < vector[sign]:
            break
        place -= vector[sign]
    return (sign, place)


def sign_at_place(book, text, rounds, place):
    """The sign at a place of a text behind so many rounds."""
    if does_burst(book):
        return sign_by_steps(book, text, rounds, place)
    return sign_by_halving(book, text, rounds, place)


def sign_by_steps(book, text, rounds, place):
    """The same, one round at a time."""
    rows = sign_rows(book)
    vectors = [{sign: 1 for sign in rows}]
    for _ in range(rounds):
        vectors.append(applied(rows, vectors[-1]))
    sign, place = part_at(text, vectors[rounds], place)
    for left in reversed(range(rounds)):
        sign, place = part_at(book.rules[sign], vectors[left], place)
    return sign


def sign_by_halving(book, text, rounds, place):
    """The same of a text that does not burst, many turns around a ring at once."""
    turns = Turns(book, rounds)
    sign, place = part_at(text, turns.vector(rounds), place)
    while rounds > 0:
        rounds, text, place = next_part(turns, sign, rounds, place)
        sign, place = part_at(text, turns.vector(rounds), place)
    return sign


class Turns:
    """A book with its matrices for so many rounds; it never changes."""

    def __init__(self, book, rounds):
        rows = side_rows(book)
        self.book = book
        self.matrices = doublings(rows, rounds)
        self.start = {key: 0 if key[:1] == LEFT else 1 for key in rows}

    def vector(self, rounds):
        """The vector behind so many rounds."""
        return vector_after(self.matrices, self.start, rounds)


def next_part(turns, sign, rounds, place):
    """What there is, with fewer rounds left, of which the sign at a place of what comes of a sign comes.

    It is a tuple of the rounds that are left, a text, and the place in what comes of it.
    """
    ring = ring_of(turns.book, sign)
    if not ring:
        return (rounds - 1, turns.book.rules[sign], place)
    ahead = turns.vector(rounds)[LEFT + sign]
    if place == ahead:
        return (0, ring[rounds % len(ring)], 0)
    is_left = place < ahead
    deep = abs(place - ahead)
    left, inner = fallen_out(turns, ring, rounds, is_left, deep)
    maker = ring[(rounds - left - 1) % len(ring)]
    if not is_left:
        return (left, right_of_ring(turns.book, maker), deep - inner - 1)
    made = left_of_ring(turns.book, maker)
    vector = turns.vector(left)
    return (left, made, inner + sum([vector[other] for other in made]) - deep)


def fallen_out(turns, ring, rounds, is_left, deep):
    """The most rounds left at which a place no longer lies between the sign of its ring and what was left last.

    It is so many signs off from that sign at the end, on one side. The other number is how many signs of this side
    come of the ring sign in the rounds that are left. What comes of a ring sign in more rounds holds what comes of
    its follower in fewer, so the rounds are found by halving.
    """
    left, inner = 0, 0
    vector = turns.start
    for number in reversed(range(len(turns.matrices))):
        more = left + (1 << number)
        if more < rounds:
            later = applied(turns.matrices[number], vector)
            length = side_length(ring[(rounds - more) % len(ring)], later, is_left)
            if length < deep:
                left, inner, vector = more, length, later
    return (left, inner)


def side_length(sign, vector, is_left):
    """How many signs stand on one side of the sign of a ring."""
    ahead = vector[LEFT + sign]
    return ahead if is_left else vector[sign] - 1 - ahead
