"""Brackets: texts that close, in all states and behind a round, and outlines as such texts ([160] to [162])."""

from everrow.automata import SIGNS
from everrow.chart import least_of, names_in, names_or_none, size_of, whole_mask
from everrow.checks import known_state
from everrow.counting import all_states, texts_of
from everrow.demands import check_text
from everrow.errors import InvalidItem, InvalidList, InvalidText
from everrow.history import chart_of
from everrow.kinds import is_letter
from everrow.outlines import bare_outline, check_outline, depths_of
from everrow.rings import turned_once
from everrow.tables import check_table, rules_of

MOST_BRACKETS = 3
BEGIN = "a"
END = "b"


def is_bracket(value):
    """Whether a value is a tuple of two letters."""
    if not isinstance(value, tuple) or len(value) != 2:
        return False
    return all([isinstance(sign, str) and len(sign) == 1 and is_letter(sign) for sign in value])


def check_brackets(brackets):
    """Refuses what are no brackets."""
    if not isinstance(brackets, list) or not 1 <= len(brackets) <= MOST_BRACKETS:
        raise InvalidList(brackets)
    taken = {}
    for bracket in brackets:
        if not is_bracket(bracket) or bracket[0] == bracket[1] or bracket[0] in taken or bracket[1] in taken:
            raise InvalidItem(bracket)
        taken[bracket[0]] = True
        taken[bracket[1]] = True


def gone_and_left(brackets, text):
    """The pairs of places of a text whose letters go together, and the places of the letters that are left."""
    kinds = {}
    for one, other in brackets:
        kinds[one] = None
        kinds[other] = one
    pairs, left = [], []
    for place, sign in enumerate(text):
        if sign in kinds:
            if left and text[left[-1]] == kinds[sign]:
                pairs.append((left.pop(), place))
            else:
                left.append(place)
    return (pairs, left)


def does_close(brackets, text):
    """Whether none of the letters of brackets is left of a text."""
    return not gone_and_left(brackets, text)[1]


def closes(brackets, text):
    """Whether a text closes."""
    check_brackets(brackets)
    check_text(text)
    return does_close(brackets, text)


def states_by_closing(chart, brackets, within):
    """The states within a state, as two lists: those whose texts close, and the others."""
    masks = [mask for mask in all_states(chart) if not mask & ~within]
    closed, others = [], []
    for mask, text in zip(masks, texts_of(chart, masks)):
        if does_close(brackets, text):
            closed.append(mask)
        else:
            others.append(mask)
    return (closed, others)


def open_state(history, brackets):
    """A state with as few deeds as possible whose text does not close, or None."""
    chart = chart_of(history)
    check_brackets(brackets)
    return names_or_none(chart, least_of(states_by_closing(chart, brackets, whole_mask(chart))[1]))


def closing(history, brackets, state):
    """A state within a state, with as many deeds as possible, whose text closes."""
    chart = chart_of(history)
    check_brackets(brackets)
    closed = states_by_closing(chart, brackets, known_state(chart, state))[0]
    sizes = [size_of(mask) for mask in closed]
    return names_in(chart, closed[sizes.index(max(sizes))])


def unfair(history, brackets):
    """The name of the first deed by which a text can come that does not close, by its kind, or None."""
    chart = chart_of(history)
    check_brackets(brackets)
    for deed in chart.made:
        if deed[0] == "put":
            is_unfair = not does_close(brackets, deed[3])
        else:
            is_unfair = does_part(chart, brackets, deed[2])
        if is_unfair:
            return deed[1]
    return None


def does_part(chart, brackets, dropped):
    """Whether just one of two signs of a put that go together is among some that are dropped."""
    for owner in [chart.numbers[sign[:2]] for sign in dropped]:
        name, text = chart.made[owner][1], chart.made[owner][3]
        for one, other in gone_and_left(brackets, text)[0]:
            if (name + (one,) in dropped) != (name + (other,) in dropped):
                return True
    return False


def opened(brackets, table):
    """The least text that closes and whose text behind a round does not, or None."""
    check_brackets(brackets)
    check_table(table)
    rules = rules_of(table)
    # What closes is nothing but signs that close alone and pairs about what closes: so two signs are enough.
    pairs = [one + other for one in SIGNS for other in SIGNS]
    for text in list(SIGNS) + pairs:
        if does_close(brackets, text) and not does_close(brackets, turned_once(rules, text)):
            return text
    return None


def skeleton(outline):
    """The text with an "a" for each line and a "b" behind its branch."""
    check_outline(outline)
    made, ahead = "", -1
    for depth in depths_of(outline):
        made += END * (ahead + 1 - depth) + BEGIN
        ahead = depth
    return made + END * (ahead + 1)


def outline_of(text):
    """The outline without words whose skeleton a text is."""
    check_text(text)
    depths = []
    depth = 0
    for sign in text:
        if sign == BEGIN:
            depths.append(depth)
        depth += 1 if sign == BEGIN else -1
    outline = bare_outline(depths)
    # Whatever else the text may be, the outline is one of another text.
    if skeleton(outline) != text:
        raise InvalidText(text)
    return outline
