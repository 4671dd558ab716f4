"""An editor as the document tells of it, with sets of deeds gone through one by one, and things to do with one."""

from tests import naive


class Model:
    """What an editor should be; it is asked for nothing that the editor should refuse, but for undo and redo."""

    def __init__(self, hand, deeds=()):
        self.hand = hand
        self.came = sorted(deeds, key=naive.name_of)
        self.state = {deed[1] for deed in deeds}
        self.cursor = ("last",)
        self.waits = {}
        self.kept, self.marks = {}, {}
        # What was done: ("turn", names), ("undo", the place of its turn here, names that went), ("redo", the place of
        # its undo here), ("other",) for whatever else changed the state.
        self.log = []

    def signs(self):
        return naive.seen(self.came, self.state)

    def text(self):
        known = naive.signs(self.came)
        return "".join(known[sign] for sign in self.signs())

    def place_of(self, mark):
        row = naive.row(self.came)
        if mark == ("last",):
            return len(self.signs())
        ahead = row[:row.index(mark[1])]
        return len([sign for sign in self.signs() if sign in ahead])

    def place(self):
        return self.place_of(self.cursor)

    def to(self, place):
        signs = self.signs()
        self.cursor = ("last",) if place == len(signs) else ("ahead", signs[place])
        return place

    def number(self):
        return max([deed[1][0] for deed in self.came] + [name[0] for name in self.waits], default=0)

    def puts(self, number, anchor, text):
        """Deeds that put a text in behind a sign, numbered from one more than a number on."""
        made = []
        while text:
            name = (number + len(made) + 1, self.hand)
            made.append(("put", name, anchor, text[:6]))
            anchor = (*name, len(text[:6]) - 1)
            text = text[6:]
        return made

    def drops(self, number, signs):
        made = []
        while signs:
            made.append(("drop", (number + len(made) + 1, self.hand), sorted(signs[:6])))
            signs = signs[6:]
        return made

    def turn(self, made, base=None):
        """Lets deeds come as a turn; if they are numbered from one more than a base on, they are numbered anew."""
        if base is not None:
            made = [moved(deed, base, self.number() - base) for deed in made]
        self.came += made
        self.state |= {deed[1] for deed in made}
        if made:
            self.log.append(("turn", [deed[1] for deed in made]))
        return [deed[1] for deed in made]

    def write(self, text):
        ahead = self.signs()[:self.place()]
        return self.turn(self.puts(self.number(), ahead[-1] if ahead else None, text))

    def rub(self, number):
        place = self.place()
        return self.turn(self.drops(self.number(), self.signs()[max(0, place - number):place]))

    def ordered(self, first, last, play):
        """Does a function to lines."""
        made, start, signs = [], 0, self.signs()
        for number, line in enumerate(self.text().split("\n")):
            if first <= number <= last:
                made += self.line_deeds(self.number() + len(made), signs, start, line, play(line))
            start += len(line) + 1
        return self.turn(made)

    def line_deeds(self, number, signs, start, line, other):
        begin = 0
        while begin < min(len(line), len(other)) and line[begin] == other[begin]:
            begin += 1
        end = 0
        while end < min(len(line), len(other)) - begin and line[len(line) - 1 - end] == other[len(other) - 1 - end]:
            end += 1
        gone = signs[start + begin:start + len(line) - end]
        ahead = signs[:start + begin]
        anchor = gone[-1] if gone else ahead[-1] if ahead else None
        made = self.drops(number, gone)
        return made + self.puts(number + len(made), anchor, other[begin:len(other) - end])

    def without(self, names):
        below = naive.rests_on(self.came)
        return {name for name in self.state if not ({name} | below[name]) & set(names)}

    def with_all(self, names):
        below = naive.rests_on(self.came)
        return self.state.union(names, *[below[name] for name in names])

    def redone(self):
        return {event[1] for event in self.log if event[0] == "redo"}

    def undo(self):
        """None where there is nothing to undo."""
        taken = {event[1] for at, event in enumerate(self.log) if event[0] == "undo" and at not in self.redone()}
        for at in reversed(range(len(self.log))):
            event = self.log[at]
            if event[0] == "turn" and at not in taken and set(event[1]) <= self.state:
                left = self.without(event[1])
                gone = sorted(self.state - left)
                self.state = left
                self.log.append(("undo", at, gone))
                return gone
        return None

    def redo(self):
        left = [at for at, event in enumerate(self.log) if event[0] == "undo" and at not in self.redone()]
        if not left or any(event[0] in ("turn", "other") for event in self.log[left[-1]:]):
            return None
        state = self.with_all(self.log[left[-1]][2])
        came = sorted(state - self.state)
        self.state = state
        self.log.append(("redo", left[-1]))
        return came

    def goto(self, state):
        if set(state) != self.state:
            self.log.append(("other",))
        self.state = set(state)

    def receive(self, deeds):
        """Gone through until no more can come."""
        for deed in deeds:
            if deed[1] not in [known[1] for known in self.came]:
                self.waits[deed[1]] = deed
        coming = []
        while True:
            sizes = {deed[1]: len(deed[3]) if deed[0] == "put" else 0 for deed in self.came + coming}
            fitting = [deed for name, deed in self.waits.items() if all(
                sign[:2] in sizes and sign[2] < sizes[sign[:2]] and sign[0] < name[0] for sign in naive.named(deed))]
            if not fitting:
                break
            coming.append(self.waits.pop(fitting[0][1]))
        coming.sort(key=naive.name_of)
        self.came += coming
        self.state = self.with_all([deed[1] for deed in coming])
        if coming:
            self.log.append(("other",))
        return [deed[1] for deed in coming]

    def all_told(self):
        return (sorted(self.came, key=naive.name_of), self.came, sorted(self.state), self.text(), self.place(),
                sorted(self.waits), [self.place_of(mark) for _, mark in sorted(self.marks.items())])


def moved(deed, base, more):
    """A deed with its number greater by so much, and with that of its anchor so, too, if this is above a base."""
    name = (deed[1][0] + more, deed[1][1])
    if deed[0] == "drop":
        return ("drop", name, deed[2])
    anchor = deed[2]
    if anchor is not None and anchor[0] > base:
        anchor = (anchor[0] + more, *anchor[1:])
    return ("put", name, anchor, deed[3])
