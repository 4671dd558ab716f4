"""Plain arguments, refused with the error that they call for."""

from everrow.errors import InvalidItem, InvalidList, InvalidName, InvalidNumber, InvalidText
from everrow.kinds import is_name, is_text, is_text_within, is_whole_from, is_whole_within


def check_name(name):
    """Refuses what is no name."""
    if not is_name(name):
        raise InvalidName(name)


def check_names(names):
    """Refuses what is no list of names, each once."""
    if not isinstance(names, list):
        raise InvalidList(names)
    taken = {}
    for name in names:
        if not is_name(name) or name in taken:
            raise InvalidItem(name)
        taken[name] = True


def check_text(text):
    """Refuses what is no text."""
    if not is_text(text):
        raise InvalidText(text)


def check_text_within(text, least, most):
    """Refuses what is no text with a number of signs from one bound to another one."""
    if not is_text_within(text, least, most):
        raise InvalidText(text)


def check_from(number, least):
    """Refuses what is no whole number of at least so much."""
    if not is_whole_from(number, least):
        raise InvalidNumber(number)


def check_within(number, least, most):
    """Refuses what is no whole number from one bound to another one."""
    if not is_whole_within(number, least, most):
        raise InvalidNumber(number)
