"""Journals: lines of deeds, orders of them, what crashes leave, and lost blocks ([110] to [114])."""

from everrow.blocks import Blocks, blocks_but, hits, left_within
from everrow.chart import names_in, whole_mask
from everrow.checks import known_state, number_if_deed
from everrow.demands import check_from, check_within
from everrow.errors import InvalidItem, InvalidList, InvalidText
from everrow.history import History, chart_of
from everrow.kinds import is_ascending, is_deed, is_whole_within
from everrow.records import deed_in, leading_deeds, record_of, text_of_deeds
from everrow.sequences import how_many_sequences, number_of_sequence, sequence_at


def line_of(deed):
    """The line of a deed."""
    if not is_deed(deed):
        raise InvalidItem(deed)
    return record_of(deed)


def deed_of(line):
    """The deed of a line."""
    deed = deed_in(line)
    if deed is None:
        raise InvalidText(line)
    return deed


def how_many_orders(history):
    """How many orders of the deeds of a history there are."""
    chart = chart_of(history)
    return how_many_sequences(chart, whole_mask(chart), {})


def order_at(history, number):
    """The order with a number."""
    chart = chart_of(history)
    check_within(number, 0, how_many_orders(history) - 1)
    return [chart.names[deed] for deed in sequence_at(chart, number)]


def known_order(chart, order):
    """The numbers of the deeds in the order that an argument is."""
    if not isinstance(order, list):
        raise InvalidList(order)
    numbers = []
    mask = 0
    for name in order:
        number = number_if_deed(chart, name)
        if number is None or mask >> number & 1 or chart.below[number] & ~mask:
            raise InvalidList(order)
        mask |= 1 << number
        numbers.append(number)
    if mask != whole_mask(chart):
        raise InvalidList(order)
    return numbers


def order_number(history, order):
    """The number of an order."""
    chart = chart_of(history)
    return number_of_sequence(chart, known_order(chart, order))


def journal(history, order):
    """The lines of the deeds in an order, each followed by a line feed."""
    chart = chart_of(history)
    return text_of_deeds([chart.made[number] for number in known_order(chart, order)])


def recovered(text):
    """The history of the longest beginning of a string that is a journal, and how long this is."""
    if not isinstance(text, str):
        raise InvalidText(text)
    deeds = leading_deeds(text, False)
    return (History(deeds), len(text_of_deeds(deeds)))


def crashes(history, order, sure):
    """The list, by length, of all states that can be recovered if so many first lines are there."""
    chart = chart_of(history)
    check_within(sure, 0, len(known_order(chart, order)))
    return [sorted(order[:many]) for many in range(sure, len(order) + 1)]


def known_blocks(history, order, size):
    """The blocks of the journal of an order."""
    chart = chart_of(history)
    numbers = known_order(chart, order)
    check_from(size, 1)
    return Blocks(chart, [(number, len(text_of_deeds([chart.made[number]]))) for number in numbers], size)


def check_block_list(blocks, listed):
    """Refuses what is no ascending list of blocks."""
    if not isinstance(listed, list) or not all([is_whole_within(block, 0, blocks.many - 1) for block in listed]):
        raise InvalidList(listed)
    if not is_ascending(listed):
        raise InvalidList(listed)


def left_state(history, order, size, lost):
    """The state that is left when some blocks are lost."""
    blocks = known_blocks(history, order, size)
    check_block_list(blocks, lost)
    return names_in(blocks.chart, left_within(blocks, lost))


def always(history, order, size, sure):
    """The greatest state within each one that can be left if some blocks are sure."""
    blocks = known_blocks(history, order, size)
    check_block_list(blocks, sure)
    # The more is lost the less is left, so it is what is left when all that can be lost is.
    return names_in(blocks.chart, left_within(blocks, blocks_but(blocks, sure)))


def known_hits(history, order, size, sure, state):
    """The blocks and deeds that show how a state can be left if some blocks are sure, or None if it cannot be."""
    blocks = known_blocks(history, order, size)
    check_block_list(blocks, sure)
    return hits(blocks, sure, known_state(blocks.chart, state))


def possible(history, order, size, sure, state):
    """Whether a state can be left if some blocks are sure."""
    return known_hits(history, order, size, sure, state) is not None


def fewest_lost(history, order, size, sure, state):
    """As few blocks as possible, none of them sure, whose loss leaves just a state; None if it cannot be left."""
    found = known_hits(history, order, size, sure, state)
    return None if found is None else [block for block, _ in found]


def next_apart(history, order, size, sure, state):
    """As many deeds next to a state as possible of which no two can be lost by one block."""
    found = known_hits(history, order, size, sure, state)
    if found is None:
        return []
    names = chart_of(history).names
    return sorted([names[number] for _, number in found])
