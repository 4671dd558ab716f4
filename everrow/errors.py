"""The errors of the package ([5]): a field holds the very argument, or the very item, that was refused."""


class RowError(ValueError):
    """What all errors of the package are."""


class InvalidList(RowError):
    """An argument that has to be a list and is none, or that does not fit as a list."""

    def __init__(self, value=None):
        self.value = value


class InvalidItem(RowError):
    """An item of a list that does not fit."""

    def __init__(self, value=None):
        self.value = value


class InvalidHistory(RowError):
    """An argument that has to be a history and is none."""

    def __init__(self, value=None):
        self.value = value


class InvalidState(RowError):
    """An argument that has to be a state and is none, or that does not fit."""

    def __init__(self, value=None):
        self.value = value


class InvalidNumber(RowError):
    """An argument that has to be a whole number within bounds and is none."""

    def __init__(self, value=None):
        self.value = value


class InvalidText(RowError):
    """An argument that has to be a text, a line, a word, a sign, or the text of something, and is none."""

    def __init__(self, value=None):
        self.value = value


class InvalidTree(RowError):
    """An argument that has to be a tree and is none."""

    def __init__(self, value=None):
        self.value = value


class InvalidLine(RowError):
    """An argument that has to be a line of signs and is none."""

    def __init__(self, value=None):
        self.value = value


class InvalidMark(RowError):
    """An argument that has to be a mark, or a selection, and is none."""

    def __init__(self, value=None):
        self.value = value


class InvalidChange(RowError):
    """An argument that has to be a change and is none, or that does not fit."""

    def __init__(self, value=None):
        self.value = value


class InvalidKeys(RowError):
    """An argument that has to be a list of keys and is none, or that does not fit."""

    def __init__(self, value=None):
        self.value = value


class InvalidPattern(RowError):
    """An argument that has to be a pattern and is none."""

    def __init__(self, value=None):
        self.value = value


class InvalidRules(RowError):
    """An argument that has to be rules and is none."""

    def __init__(self, value=None):
        self.value = value


class InvalidLayout(RowError):
    """An argument that has to be a layout and is none, or that does not fit."""

    def __init__(self, value=None):
        self.value = value


class InvalidTable(RowError):
    """An argument that has to be a table and is none."""

    def __init__(self, value=None):
        self.value = value


class UnknownDeed(RowError):
    """What has to be the name of a deed of a history, or of a deed that a hand has, and is none."""

    def __init__(self, value=None):
        self.value = value


class UnknownSign(RowError):
    """What has to be the name of a sign of a history, or of one that a hand has heard, and is none."""

    def __init__(self, value=None):
        self.value = value


class InvalidName(RowError):
    """An argument that has to be a name and is none."""

    def __init__(self, name=None):
        self.name = name


class TakenName(RowError):
    """A name that is kept already."""

    def __init__(self, name=None):
        self.name = name


class UnknownName(RowError):
    """An argument that has to be a hand of a net, a node of a tree, or a kept name, and is none."""

    def __init__(self, name=None):
        self.name = name


class NothingToUndo(RowError):
    """Nothing is there that could be undone, or redone."""
