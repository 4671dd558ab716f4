"""Histories as texts, and what is wrong with strings that are none ([115])."""

from everrow.errors import InvalidText
from everrow.history import History, chart_of
from everrow.records import leading_deeds, text_of_deeds


def write_history(history):
    """The journal of the deeds of a history in the order of their names."""
    return text_of_deeds(chart_of(history).made)


def read_history(text):
    """The history of a text."""
    if wrong_line(text) is not None:
        raise InvalidText(text)
    return History(leading_deeds(text, True))


def wrong_line(text):
    """The number, from 1, of the first line of a string that cannot stand there in the text of a history, or None."""
    if not isinstance(text, str):
        raise InvalidText(text)
    deeds = leading_deeds(text, True)
    return None if text_of_deeds(deeds) == text else len(deeds) + 1
