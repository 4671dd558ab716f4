"""Deeds that a hand makes one behind the other, of any many signs, six at a time."""

from everrow.kinds import MOST_SIGNS


class Maker:
    """Makes deeds of one hand whose numbers go on by 1 from a number."""

    def __init__(self, hand, number):
        self.hand = hand
        self.number = number
        self.made = []

    def put(self, anchor, text):
        """Makes puts of a text, the first one on an anchor and each further one on the last sign of the one ahead."""
        for part in sixes(text):
            name = self.next_name()
            self.made.append(("put", name, anchor, part))
            anchor = name + (len(part) - 1,)

    def drop(self, signs):
        """Makes drops of some signs in the order in which they stand, each with its list in order."""
        for part in sixes(signs):
            self.made.append(("drop", self.next_name(), sorted(part)))

    def next_name(self):
        """The name of the next deed."""
        self.number += 1
        return (self.number, self.hand)


def maker_for(chart, hand):
    """A maker whose numbers go on from the greatest one of a history."""
    return Maker(hand, max([name[0] for name in chart.names], default=0))


def sixes(row):
    """What a text or a list is cut into by six at a time, the last part perhaps shorter."""
    return [row[at:at + MOST_SIGNS] for at in range(0, len(row), MOST_SIGNS)]
