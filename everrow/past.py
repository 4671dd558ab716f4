"""What an editor can undo and redo ([122])."""


class Past:
    """The turns of an editor, by number, which of them are taken back, and what can be redone."""

    def __init__(self):
        # For each turn the names of its deeds.
        self.turns = []
        # The numbers of the turns that are taken back, and have not been redone.
        self.taken = {}
        # What can be redone, the first one last: tuples of the number of a turn and of the names that went with it.
        self.undone = []

    def turn(self, names):
        """Keeps a turn by which some deeds came."""
        self.turns.append(list(names))
        self.forget()

    def forget(self):
        """Lets nothing be redone any more."""
        self.undone = []

    def last_within(self, state):
        """The number of the last turn not taken back all whose deeds a state has, or None if there is none."""
        for number in reversed(range(len(self.turns))):
            if number not in self.taken and all([name in state for name in self.turns[number]]):
                return number
        return None

    def take_back(self, number, gone):
        """Keeps that a turn was taken back, and which deeds went by it."""
        self.taken[number] = True
        self.undone.append((number, list(gone)))

    def bring_back(self):
        """The names of the deeds that went by the last undoing, of which it keeps that it was redone."""
        number, gone = self.undone.pop()
        self.taken.pop(number)
        return gone

    def twin(self):
        """The same, for an editor of its own."""
        other = Past()
        other.turns = list(self.turns)
        other.taken = dict(self.taken)
        other.undone = list(self.undone)
        return other
