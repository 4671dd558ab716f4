"""Hands: what each has made, been given and heard, and how all come to have all ([30] to [33])."""

from everrow.chart import names_in
from everrow.checks import known_state
from everrow.demands import check_names
from everrow.errors import InvalidItem, InvalidList, InvalidText, UnknownDeed, UnknownName, UnknownSign
from everrow.history import History, chart_of, text_of, whole
from everrow.kinds import MOST_SIGNS, is_deed_name, is_sign_name, is_text_within, named_signs, put_size
from everrow.rounds import shortest_rounds

MOST_HANDS = 4


class Net:
    """Hands that make deeds and give them to each other."""

    def __init__(self, hands):
        check_hands(hands)
        # For each hand, by name, the deeds that it has.
        self._held = {hand: {} for hand in hands}

    def put(self, hand, anchor, text):
        """Makes a put and returns its deed name."""
        heard = heard_deeds(self._held_by(hand))
        if anchor is not None and not is_heard_sign(heard, anchor):
            raise UnknownSign(anchor)
        if not is_text_within(text, 1, MOST_SIGNS):
            raise InvalidText(text)
        name = next_name(self._held_by(hand), hand)
        return self._take(hand, ("put", name, anchor, text))

    def drop(self, hand, signs):
        """Makes a drop and returns its deed name."""
        heard = heard_deeds(self._held_by(hand))
        check_signs(heard, signs)
        name = next_name(self._held_by(hand), hand)
        return self._take(hand, ("drop", name, list(signs)))

    def send(self, hand, other, listed):
        """Gives deeds that a hand has to another one."""
        giver = self._held_by(hand)
        taker = self._held_by(other)
        if not isinstance(listed, list):
            raise InvalidList(listed)
        for name in listed:
            if not is_deed_name(name) or name not in giver:
                raise UnknownDeed(name)
        for name in listed:
            taker[name] = giver[name]

    def heard(self, hand):
        """The list, in order, of the names of the deeds that a hand has heard."""
        return sorted(heard_deeds(self._held_by(hand)))

    def waiting(self, hand):
        """The list, in order, of the names of the deeds that a hand has and has not heard."""
        held = self._held_by(hand)
        heard = heard_deeds(held)
        return sorted([name for name in held if name not in heard])

    def history(self, hand):
        """The history of the deeds that a hand has heard."""
        heard = heard_deeds(self._held_by(hand))
        return History([heard[name] for name in heard])

    def text(self, hand):
        """The text of all that a hand has heard."""
        history = self.history(hand)
        return text_of(history, whole(history))

    def lacks(self, hand, other):
        """The list, in order, of the names of the deeds that another hand has and a hand has not."""
        held = self._held_by(hand)
        theirs = self._held_by(other)
        return sorted([name for name in theirs if name not in held])

    def rounds(self):
        """As few givings of all that a hand has as possible behind which each hand has all deeds."""
        return shortest_rounds([(hand, list(held)) for hand, held in self._held.items()])

    def _held_by(self, hand):
        """The deeds that a hand has."""
        if not isinstance(hand, str) or hand not in self._held:
            raise UnknownName(hand)
        return self._held[hand]

    def _take(self, hand, deed):
        """Lets a hand have a deed that it has made, and returns the deed's name."""
        self._held[hand][deed[1]] = deed
        return deed[1]


def check_hands(hands):
    """Refuses what no net can be made of."""
    if isinstance(hands, list) and not 1 <= len(hands) <= MOST_HANDS:
        raise InvalidList(hands)
    check_names(hands)


def check_signs(heard, signs):
    """Refuses what can be no list of the signs of a drop."""
    if not isinstance(signs, list) or not 1 <= len(signs) <= MOST_SIGNS:
        raise InvalidList(signs)
    for sign in signs:
        if not is_heard_sign(heard, sign):
            raise UnknownSign(sign)
    for ahead, sign in zip(signs, signs[1:]):
        if sign <= ahead:
            raise InvalidItem(sign)


def heard_deeds(held):
    """Of the deeds that a hand has those of which it has all on which they rest, by name, in order."""
    heard = {}
    for name in sorted(held):
        if all([sign[:2] in heard for sign in named_signs(held[name])]):
            heard[name] = held[name]
    return heard


def is_heard_sign(heard, value):
    """Whether a value is the name of a sign of a put that was heard."""
    if not is_sign_name(value) or value[:2] not in heard:
        return False
    return value[2] < put_size(heard[value[:2]])


def next_name(held, hand):
    """The name of the next deed that a hand makes."""
    return (max([name[0] for name in held], default=0) + 1, hand)


def clashes(history, one, other):
    """The list, in order, of the pairs of deeds of just one state each that drop one sign or hang on one."""
    chart = chart_of(history)
    first = known_state(chart, one)
    second = known_state(chart, other)
    found = []
    for name in names_in(chart, first & ~second):
        for rival in names_in(chart, second & ~first):
            if is_clash(chart.made[chart.numbers[name]], chart.made[chart.numbers[rival]]):
                found.append((name, rival))
    return found


def is_clash(deed, rival):
    """Whether two deeds are drops that name one sign, or puts with one anchor."""
    if deed[0] != rival[0]:
        return False
    if deed[0] == "put":
        return deed[2] == rival[2]
    return any([sign in rival[2] for sign in deed[2]])
