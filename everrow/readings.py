"""Texts that can be read as two unlike rows of words, the least one first ([182]).

Two readings are gone through at once, sign by sign. What can still come of them depends on what is left of the word
that each of them is in, and on the lead: how far what the one means is ahead of the other one. Two unlike leads are
never made up for by the same that follows; so of all leads with the same rests only the first two matter.
"""

from everrow.overlaps import cut_alike

# What two readings mean is unlike, whatever follows.
APART = None
LEVEL = ("", "")


class Pair:
    """Two readings of a text, given what is left of the word that each of them is in; it never changes."""

    def __init__(self, spelled, rests, numbers, lead):
        self.spelled = spelled
        self.rests = rests
        # For each of the two the numbers of its words, as a tuple.
        self.numbers = numbers
        self.lead = lead


def least_double(words, meanings, is_apart):
    """The least text that two unlike rows of words make, and these; None if there is none.

    The rows have to mean unlike texts, unless it is enough that they are unlike.
    """
    # Readings that begin with the same word leave a lesser text without it.
    reached = []
    for one in range(len(words)):
        for other in range(one):
            lead = APART if is_apart else longer_lead(LEVEL, meanings[one], meanings[other])
            reached.append(Pair("", (words[one], words[other]), ((one,), (other,)), lead))
    met = {}
    while reached:
        pairs = [read_on(pair) for pair in reached if do_agree(pair)]
        pairs = sorted(pairs, key=lambda reading: reading.spelled)
        for pair in pairs:
            if pair.rests == LEVEL and pair.lead != LEVEL:
                return (pair.spelled, list(pair.numbers[0]), list(pair.numbers[1]))
        reached = []
        for pair in pairs:
            if is_new(met, pair):
                met[pair.rests] = met.get(pair.rests, []) + [pair.lead]
                reached.extend(begun_words(words, meanings, pair))
    return None


def longer_lead(lead, one, other):
    """The lead when more is meant by one reading and by the other one."""
    if lead == APART:
        return APART
    left = cut_alike(lead[0] + one, lead[1] + other)
    return APART if left[0] and left[1] else left


def do_agree(pair):
    """Whether two readings go on with the same sign."""
    return pair.rests[0][0] == pair.rests[1][0]


def read_on(pair):
    """Two readings behind one sign more."""
    one, other = pair.rests
    return Pair(pair.spelled + one[0], (one[1:], other[1:]), pair.numbers, pair.lead)


def is_new(met, pair):
    """Whether something can come of two readings that does not come of those met with the same rests so far.

    Where both are at their ends nothing more comes: what follows has a lesser text by itself.
    """
    leads = met.get(pair.rests, [])
    return pair.rests != LEVEL and len(leads) < 2 and APART not in leads and pair.lead not in leads


def begun_words(words, meanings, pair):
    """Two readings, with each word that the one can begin that has come to the end of its own."""
    one, other = pair.rests
    first, second = pair.numbers
    if one and other:
        return [pair]
    found = []
    for number, word in enumerate(words):
        if one:
            lead = longer_lead(pair.lead, "", meanings[number])
            found.append(Pair(pair.spelled, (one, word), (first, second + (number,)), lead))
        else:
            lead = longer_lead(pair.lead, meanings[number], "")
            found.append(Pair(pair.spelled, (word, other), (first + (number,), second), lead))
    return found
