"""Patterns: what fits, matches, patterns that fit the same, matches replaced, rules ([80] to [84])."""

from everrow.automata import all_matches, does_fit, first_match, is_word, least_text, machine_for
from everrow.chart import seen_places, shown_text
from everrow.checks import known_state
from everrow.demands import check_name, check_text, check_text_within, check_within
from everrow.errors import InvalidRules
from everrow.history import chart_of
from everrow.kinds import MOST_SIGNS
from everrow.making import maker_for

MOST_RULES = 4
MOST_LEFT = 400
MOST_PASSES = 200


def fits(pattern, text):
    """Whether a text fits a pattern."""
    machine = machine_for(pattern)
    check_text(text)
    return does_fit(machine, text)


def matches(pattern, text):
    """The list of the matches of a text from the left."""
    machine = machine_for(pattern)
    check_text(text)
    return all_matches(machine, text)


def next_match(pattern, text, place):
    """The first match from a place on, or else from the beginning on; None if there is none."""
    machine = machine_for(pattern)
    check_text(text)
    check_within(place, 0, len(text))
    match = first_match(machine, text, place)
    return first_match(machine, text, 0) if match is None else match


def struck(pattern, text):
    """The ascending list of the last places of the matches."""
    return [end - 1 for _, end in matches(pattern, text)]


def same_fits(one, other):
    """Whether just the same texts fit two patterns."""
    return parting_text(one, other) is None


def fits_less(one, other):
    """Whether every text that fits one pattern fits another one."""
    machines = [machine_for(one), machine_for(other)]
    return least_text(machines, [(True, False)]) is None


def parting_text(one, other):
    """The least text that fits just one of two patterns, or None."""
    machines = [machine_for(one), machine_for(other)]
    return least_text(machines, [(True, False), (False, True)])


def common_text(one, other):
    """The least text that fits two patterns, or None."""
    machines = [machine_for(one), machine_for(other)]
    return least_text(machines, [(True, True)])


def found_signs(history, state, pattern):
    """For each match in the text of a state the tuple of the names of its first and its last sign."""
    chart = chart_of(history)
    mask = known_state(chart, state)
    signs, found = signs_and_matches(chart, mask, machine_for(pattern))
    return [(signs[begin], signs[end - 1]) for begin, end in found]


def signs_and_matches(chart, mask, machine):
    """The names of the signs seen in a state, and the matches in its text."""
    signs = [chart.signs[place] for place in seen_places(chart, mask)]
    return (signs, all_matches(machine, shown_text(chart, mask)))


def replaced(history, state, hand, pattern, text):
    """The list of deeds by which a hand puts a text in the place of each match in the text of a state."""
    chart = chart_of(history)
    mask = known_state(chart, state)
    check_name(hand)
    machine = machine_for(pattern)
    check_text_within(text, 0, MOST_SIGNS)
    maker = maker_for(chart, hand)
    make_replacement(maker, chart, mask, machine, text)
    return maker.made


def make_replacement(maker, chart, mask, machine, text):
    """Makes the deeds by which a text comes in the place of each match in the text of a state."""
    signs, found = signs_and_matches(chart, mask, machine)
    for begin, end in reversed(found):
        maker.put(signs[end - 1], text)
        maker.drop(signs[begin:end])


def are_rules(value):
    """Whether a value is a list of rules."""
    return isinstance(value, list) and 1 <= len(value) <= MOST_RULES and all([is_rule(rule) for rule in value])


def is_rule(value):
    """Whether a value is a tuple of two words, the second one perhaps empty."""
    if not isinstance(value, tuple) or len(value) != 2:
        return False
    return is_word(value[0]) and (is_word(value[1]) or value[1] == "")


def settle(rules, text, most):
    """What becomes of a text when rules are applied to it in passes."""
    if not are_rules(rules):
        raise InvalidRules(rules)
    check_text(text)
    check_within(most, 0, MOST_LEFT)
    passes = {text: 0}
    many = 0
    while many < MOST_PASSES:
        more = passed(rules, text)
        if more == text:
            return ("ends", many, text)
        many += 1
        if more in passes:
            return ("ring", passes[more], many - passes[more])
        if len(more) > most:
            return ("outgrows", many)
        passes[more] = many
        text = more
    return ("lasts",)


def passed(rules, text):
    """What one pass makes of a text."""
    for word, other in rules:
        text = text.replace(word, other)
    return text
