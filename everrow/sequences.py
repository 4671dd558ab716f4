"""Orders of the deeds of a history, each deed behind all that it rests on: how many there are, by number ([111]).

Deeds of which none rests on others can come between these at will, so each part of deeds that hang together is
counted for itself.
"""

from math import comb

from everrow.chart import numbers_in, size_of, whole_mask


def parts_of(chart, left):
    """The masks of the parts of some deeds that hang together by what rests on what."""
    parts = []
    while left:
        part = 0
        more = left & -left
        while more != part:
            part = more
            for number in numbers_in(part):
                more |= (chart.below[number] | chart.above[number]) & left
        parts.append(part)
        left &= ~part
    return parts


def how_many_sequences(chart, left, known):
    """How many orders some deeds can come in; `known` keeps the answers."""
    many, size = 1, 0
    for part in parts_of(chart, left):
        size += size_of(part)
        many *= comb(size, size_of(part)) * how_many_of_part(chart, part, known)
    return many


def how_many_of_part(chart, part, known):
    """The same of deeds that hang together."""
    if size_of(part) == 1:
        return 1
    if part not in known:
        known[part] = sum([how_many_sequences(chart, part & ~(1 << number), known)
                           for number in first_numbers(chart, part)])
    return known[part]


def first_numbers(chart, left):
    """The ascending list of the deeds of some that rest on none of them."""
    return [number for number in numbers_in(left) if not chart.below[number] & left]


def sequence_at(chart, number):
    """The order with a number, as a list of numbers of deeds (there has to be one)."""
    found = []
    left, known = whole_mask(chart), {}
    while left:
        for first in first_numbers(chart, left):
            many = how_many_sequences(chart, left & ~(1 << first), known)
            if number < many:
                break
            number -= many
        found.append(first)
        left &= ~(1 << first)
    return found


def number_of_sequence(chart, sequence):
    """The number of an order, which is a list of numbers of deeds."""
    number, left, known = 0, whole_mask(chart), {}
    for chosen in sequence:
        for lesser in first_numbers(chart, left):
            if lesser < chosen:
                number += how_many_sequences(chart, left & ~(1 << lesser), known)
        left &= ~(1 << chosen)
    return number
