"""What plain values are: whole numbers, names, signs, texts, and the deeds that are made of them ([2], [10])."""

GREATEST_NUMBER = 10 ** 18
LONGEST_NAME = 8
MOST_SIGNS = 6
BLANK_SIGNS = " \n"


def is_whole(value):
    """Whether a value is a whole number (no Boolean is one)."""
    return isinstance(value, int) and not isinstance(value, bool)


def is_whole_from(value, least):
    """Whether a value is a whole number of at least so much."""
    return is_whole(value) and value >= least


def is_whole_within(value, least, most):
    """Whether a value is a whole number from one bound to another one."""
    return is_whole(value) and least <= value <= most


def is_letter(sign):
    """Whether a character is one of the small letters (Python's own tests know letters of all alphabets)."""
    return "a" <= sign <= "z"


def is_name(value):
    """Whether a value is a name, as hands and nodes have them."""
    if not isinstance(value, str) or not 1 <= len(value) <= LONGEST_NAME:
        return False
    return all([is_letter(letter) for letter in value])


def is_text(value):
    """Whether a value is a text, perhaps an empty one."""
    return isinstance(value, str) and all([is_letter(sign) or sign in BLANK_SIGNS for sign in value])


def is_text_within(value, least, most):
    """Whether a value is a text with a number of signs from one bound to another one."""
    return is_text(value) and least <= len(value) <= most


def is_sign(value):
    """Whether a value is a sign, a text of one."""
    return is_text_within(value, 1, 1)


def is_deed_name(value):
    """Whether a value has the form of a deed name."""
    if not isinstance(value, tuple) or len(value) != 2:
        return False
    return is_whole_within(value[0], 1, GREATEST_NUMBER) and is_name(value[1])


def is_sign_name(value):
    """Whether a value has the form of a sign name."""
    if not isinstance(value, tuple) or len(value) != 3:
        return False
    return is_deed_name(value[:2]) and is_whole_within(value[2], 0, MOST_SIGNS - 1)


def is_ascending(rows):
    """Whether each item of a list is greater than the one ahead of it."""
    return all([before < behind for before, behind in zip(rows, rows[1:])])


def is_put(deed):
    """Whether a tuple that says it is a put is one."""
    if len(deed) != 4 or not is_deed_name(deed[1]) or not is_text_within(deed[3], 1, MOST_SIGNS):
        return False
    return deed[2] is None or is_sign_name(deed[2])


def is_drop(deed):
    """Whether a tuple that says it is a drop is one."""
    if len(deed) != 3 or not is_deed_name(deed[1]) or not isinstance(deed[2], list):
        return False
    if not 1 <= len(deed[2]) <= MOST_SIGNS or not all([is_sign_name(sign) for sign in deed[2]]):
        return False
    return is_ascending(deed[2])


def is_deed(value):
    """Whether a value is a deed, whatever history it may fit."""
    if not isinstance(value, tuple) or len(value) == 0:
        return False
    if value[0] == "put":
        return is_put(value)
    return value[0] == "drop" and is_drop(value)


def copied(deed):
    """A deed with a list of its own, so that nobody else can change it."""
    if deed[0] == "drop":
        return ("drop", deed[1], list(deed[2]))
    return deed


def named_signs(deed):
    """The names of the signs that a deed names, its anchor among them."""
    if deed[0] == "drop":
        return list(deed[2])
    return [] if deed[2] is None else [deed[2]]


def put_size(deed):
    """How many signs a deed has: a drop has none."""
    return len(deed[3]) if deed[0] == "put" else 0
