"""Slips between names and strings read letter by letter, and the least string of some kind ([190], [192]).

How far a name has come with a string is told by a row: for each beginning of the name the least number of slips
between it and the string; and by what a letter turned round with the next one would come to.
"""

from everrow.automata import SIGNS


class Reader:
    """A name, and all that strings can come to with it, by number; slips from a bound on count as the bound."""

    def __init__(self, name, bound):
        self.name = name
        self.bound = bound
        self.reached = []
        self.numbers = {}
        self.steps = {}

    def number_for(self, place):
        """The number of what strings can come to."""
        if place not in self.numbers:
            self.numbers[place] = len(self.reached)
            self.reached.append(place)
        return self.numbers[place]

    def begin(self):
        """The number of what the empty string comes to."""
        size = len(self.name) + 1
        row = tuple([min(slipped, self.bound) for slipped in range(size)])
        return self.number_for((row, (self.bound,) * size))

    def step(self, number, letter):
        """The number of what a string comes to with one letter more."""
        # Letters that the name has not are all alike.
        if letter not in self.name:
            letter = ""
        if (number, letter) not in self.steps:
            row, turned = self.reached[number]
            place = (self.next_row(row, turned, letter), self.next_turned(row, letter))
            self.steps[(number, letter)] = self.number_for(place)
        return self.steps[(number, letter)]

    def next_row(self, row, turned, letter):
        """The least slips behind one letter more."""
        found = [min(row[0] + 1, self.bound)]
        for at, sign in enumerate(self.name):
            ways = [row[at + 1] + 1, found[at] + 1, row[at] + (0 if sign == letter else 1), self.bound]
            if at > 0 and self.name[at - 1] == letter:
                ways.append(turned[at + 1])
            found.append(min(ways))
        return tuple(found)

    def next_turned(self, row, letter):
        """For each beginning of the name the slips if its last two letters come the other way round, from this one."""
        found = [self.bound]
        for at, sign in enumerate(self.name):
            can_turn = at > 0 and sign == letter and self.name[at - 1] != letter
            found.append(min(row[at - 1] + 1, self.bound) if can_turn else self.bound)
        return tuple(found)

    def slips_at(self, number):
        """How many slips there are between the name and a string that has come so far."""
        return self.reached[number][0][-1]

    def is_live(self, number):
        """Whether less slips than the bound can still come of a string that has come so far."""
        row, turned = self.reached[number]
        return min(row + turned) < self.bound


def slips_between(one, other):
    """The least sum of the slips between two strings."""
    reader = Reader(one, len(one) + len(other))
    number = reader.begin()
    for letter in other:
        number = reader.step(number, letter)
    return reader.slips_at(number)


def letters_for(names):
    """The letters of which the least string of some kind is made: those of some names, and the least other one."""
    named = "".join(names)
    others = [sign for sign in SIGNS if sign.isalpha() and sign not in named]
    return sorted(set(list(named) + others[:1]))


def least_string(names, most, is_wanted, needed):
    """The least string whose slips to some names are as wanted, or None if there is none.

    Slips above `most` are all alike. So many names as needed have to be within reach of a string.
    """
    readers = [Reader(name, most + 1) for name in names]
    letters = letters_for(names)
    reached = [("", tuple([reader.begin() for reader in readers]))]
    met = {}
    while reached:
        following = []
        for string, numbers in reached:
            if numbers not in met:
                met[numbers] = True
                if is_wanted([reader.slips_at(number) for reader, number in zip(readers, numbers)]):
                    return string
                live = [reader for reader, number in zip(readers, numbers) if reader.is_live(number)]
                if len(live) >= needed:
                    following.extend([(string + letter, step_all(readers, numbers, letter)) for letter in letters])
        reached = following
    return None


def step_all(readers, numbers, letter):
    """What a string comes to with each of some names with one letter more."""
    return tuple([reader.step(number, letter) for reader, number in zip(readers, numbers)])
