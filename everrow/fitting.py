"""How many texts of a length fit patterns, and which number each of them has ([88])."""

from everrow.automata import SIGNS, does_fit, fitting, machine_for, sign_kinds, start_of, step, step_all
from everrow.demands import check_from, check_text, check_within


def ways_on(machines):
    """For each way in which texts can have come through some machines, how many signs lead on to which others.

    Where no machine can be gone through any more, nothing leads on.
    """
    kinds = sign_kinds(machines)
    nowhere = (0,) * len(machines)
    found = {}
    reached = [start_of(machines)]
    while reached:
        masks = reached.pop()
        if masks not in found:
            ways = {}
            for sign, many in kinds:
                more = step_all(machines, masks, sign)
                if more != nowhere:
                    ways[more] = ways.get(more, 0) + many
            found[masks] = ways
            reached.extend(list(ways))
    return found


def first_counts(machines, ways, wanted):
    """How many texts without signs lead on from where texts have come to what is wanted: one or none."""
    return {masks: 1 if fitting(machines, masks) in wanted else 0 for masks in ways}


def next_counts(ways, counts):
    """The same of texts with one sign more than those of some counts."""
    return {masks: sum([ways[masks][more] * counts[more] for more in ways[masks]]) for masks in ways}


def how_many_wanted(machines, length, wanted):
    """How many texts of a length there are of which it is wanted which of some machines they fit."""
    ways = ways_on(machines)
    counts = first_counts(machines, ways, wanted)
    for _ in range(length):
        counts = next_counts(ways, counts)
    return counts[start_of(machines)]


def how_many_fit(pattern, length):
    """How many texts of a length fit a pattern."""
    machines = [machine_for(pattern)]
    check_from(length, 0)
    return how_many_wanted(machines, length, [(True,)])


def how_many_both(one, other, length):
    """How many texts of a length fit two patterns."""
    machines = [machine_for(one), machine_for(other)]
    check_from(length, 0)
    return how_many_wanted(machines, length, [(True, True)])


def how_many_part(one, other, length):
    """How many texts of a length fit just one of two patterns."""
    machines = [machine_for(one), machine_for(other)]
    check_from(length, 0)
    return how_many_wanted(machines, length, [(True, False), (False, True)])


def count_rows(machine, length):
    """For each length up to one how many texts of it lead on from where texts have come to fitting the pattern."""
    ways = ways_on([machine])
    rows = [first_counts([machine], ways, [(True,)])]
    for _ in range(length):
        rows.append(next_counts(ways, rows[-1]))
    return rows


def fit_at(pattern, length, number):
    """The text of a length with a number among those that fit a pattern."""
    machine = machine_for(pattern)
    check_from(length, 0)
    rows = count_rows(machine, length)
    check_within(number, 0, rows[length][(1,)] - 1)
    text, mask = "", 1
    for left in reversed(range(length)):
        sign, number = sign_at(machine, mask, rows[left], number)
        text += sign
        mask = step(machine, mask, sign)
    return text


def sign_at(machine, mask, counts, number):
    """The next sign of the text with a number among those that go on to fit, and its number among those with it."""
    for sign in SIGNS:
        many = counts.get((step(machine, mask, sign),), 0)
        if number < many:
            break
        number -= many
    return (sign, number)


def fit_number(pattern, text):
    """The number of a text among those of its length that fit a pattern, or None if it does not fit."""
    machine = machine_for(pattern)
    check_text(text)
    if not does_fit(machine, text):
        return None
    rows = count_rows(machine, len(text))
    number, mask = 0, 1
    for at, sign in enumerate(text):
        counts = rows[len(text) - at - 1]
        for lesser in SIGNS[:SIGNS.index(sign)]:
            number += counts.get((step(machine, mask, lesser),), 0)
        mask = step(machine, mask, sign)
    return number
