"""Editors: a hand writes, takes back, goes to other states and takes in what others did ([120] to [124])."""

from everrow.automata import LINE_END, machine_for
from everrow.changes import make_change
from everrow.checks import known_state
from everrow.demands import check_from, check_name, check_text_within, check_within
from everrow.display import spot, stepped
from everrow.errors import InvalidItem, InvalidList, InvalidText, NothingToUndo, TakenName, UnknownName
from everrow.history import History, can_follow, chart_of, closure, seen, text_of, whole
from everrow.keys import check_keys
from everrow.kinds import MOST_SIGNS, copied, is_deed, is_text, put_size
from everrow.making import Maker
from everrow.marks import place_of
from everrow.orders import check_orders, played
from everrow.overlaps import ends_in_common
from everrow.past import Past
from everrow.patterns import make_replacement
from everrow.states import out
from everrow.strokes import press


class Editor:
    """A hand with a history, of which it shows a state, and a cursor."""

    def __init__(self, hand, history=None):
        check_name(hand)
        self._hand = hand
        self._history = History([]) if history is None else history
        self._state = whole(self._history)
        self._cursor = ("last",)
        # The deeds in the order in which they came.
        self._journal = self._history.deeds()
        self._past = Past()
        # By name: the deeds that wait, the states that were kept, the marks.
        self._waiting = {}
        self._kept = {}
        self._marks = {}

    def history(self):
        """The history."""
        return self._history

    def state(self):
        """The state that is shown."""
        return list(self._state)

    def text(self):
        """The text that is shown."""
        return text_of(self._history, self._state)

    def place(self):
        """The place of the cursor in the text."""
        return place_of(self._history, self._state, self._cursor)

    def write(self, text):
        """Puts a text in at the cursor, and returns the names of the new deeds."""
        if not is_text(text) or text == "":
            raise InvalidText(text)
        ahead = self._signs()[:self.place()]
        maker = self._maker()
        maker.put(ahead[-1] if ahead else None, text)
        return self._turn(maker.made)

    def rub(self, number):
        """Drops so many signs ahead of the cursor, and returns the names of the new deeds."""
        check_from(number, 1)
        place = self.place()
        maker = self._maker()
        maker.drop(self._signs()[max(place - number, 0):place])
        return self._turn(maker.made)

    def to(self, place):
        """Sets the cursor to a place, and returns it."""
        signs = self._signs()
        check_within(place, 0, len(signs))
        self._cursor = ("ahead", signs[place]) if place < len(signs) else ("last",)
        return place

    def home(self):
        """Sets the cursor to the beginning of its line, and returns its place."""
        return self.to(self.text()[:self.place()].rfind(LINE_END) + 1)

    def end(self):
        """Sets the cursor to the end of its line, and returns its place."""
        place = self.place()
        return self.to(place + len(self.text()[place:].partition(LINE_END)[0]))

    def up(self, width):
        """Sets the cursor one row higher at a width, and returns its place."""
        return self._step(width, -1)

    def down(self, width):
        """Sets the cursor one row lower at a width, and returns its place."""
        return self._step(width, 1)

    def undo(self):
        """Takes the last turn back, and returns the names of the deeds that went."""
        number = self._past.last_within(self._state)
        if number is None:
            raise NothingToUndo()
        before = self._state
        for name in self._past.turns[number]:
            self._state = out(self._history, self._state, name)
        gone = [name for name in before if name not in self._state]
        self._past.take_back(number, gone)
        return gone

    def redo(self):
        """Redoes what the last undoing took back, and returns the names of the deeds that came."""
        if not self._past.undone:
            raise NothingToUndo()
        before = self._state
        self._state = self._with(self._past.bring_back())
        return [name for name in self._state if name not in before]

    def goto(self, state):
        """Shows another state."""
        known_state(chart_of(self._history), state)
        self._show(state)

    def keep(self, name):
        """Gives the state shown a name."""
        check_name(name)
        if name in self._kept:
            raise TakenName(name)
        self._kept[name] = self._state

    def back_to(self, name):
        """Shows a state that has a name."""
        check_name(name)
        if name not in self._kept:
            raise UnknownName(name)
        self._show(self._kept[name])

    def ordered(self, first, last, orders):
        """Does orders to the lines from one number to another one, and returns the names of the new deeds."""
        lines = self.text().split(LINE_END)
        check_within(first, 0, len(lines) - 1)
        check_within(last, first, len(lines) - 1)
        check_orders(orders)
        signs = self._signs()
        maker = self._maker()
        start = 0
        for number, line in enumerate(lines):
            if first <= number <= last:
                make_line(maker, signs[:start + len(line)], line, played(orders, line))
            start += len(line) + 1
        return self._turn(maker.made)

    def replaced(self, pattern, text):
        """Replaces all matches of a pattern, and returns the names of the new deeds."""
        machine = machine_for(pattern)
        check_text_within(text, 0, MOST_SIGNS)
        chart = chart_of(self._history)
        maker = self._maker()
        make_replacement(maker, chart, known_state(chart, self._state), machine, text)
        return self._turn(maker.made)

    def pressed(self, keys):
        """Presses keys on the text with the cursor, and returns the names of the new deeds."""
        check_keys(keys)
        signs = self._signs()
        row, place = press(list(range(len(signs))), self.place(), keys)
        maker = self._maker()
        make_change(maker, signs, row)
        names = self._turn(maker.made)
        self.to(place)
        return names

    def receive(self, deeds):
        """Takes deeds in, and returns the names of those that came into the history."""
        there = {deed[1]: deed for deed in self._journal}
        check_received(deeds, there, self._waiting)
        waiting = dict(self._waiting)
        for deed in deeds:
            if deed[1] not in there:
                waiting[deed[1]] = copied(deed)
        coming = fitting_deeds(there, waiting)
        names = [deed[1] for deed in coming]
        if coming:
            self._take_in(coming)
            self._past.forget()
        self._waiting = {name: waiting[name] for name in waiting if name not in names}
        return names

    def waiting(self):
        """The list, in order, of the names of the deeds that wait."""
        return sorted(self._waiting)

    def mark(self, name):
        """Sets a mark where the cursor is."""
        check_name(name)
        if name in self._marks:
            raise TakenName(name)
        self._marks[name] = self._cursor

    def at(self, name):
        """The place of a mark."""
        check_name(name)
        if name not in self._marks:
            raise UnknownName(name)
        return place_of(self._history, self._state, self._marks[name])

    def journal(self):
        """The list of the deeds in the order in which they came into the history."""
        return [copied(deed) for deed in self._journal]

    def copy(self):
        """An independent editor with all that this one has."""
        other = Editor(self._hand, self._history)
        other._state = list(self._state)
        other._cursor = self._cursor
        other._journal = list(self._journal)
        other._past = self._past.twin()
        other._waiting = dict(self._waiting)
        other._kept = dict(self._kept)
        other._marks = dict(self._marks)
        return other

    def _signs(self):
        """The names of the signs that are seen."""
        return seen(self._history, self._state)

    def _maker(self):
        """A maker of the next deeds of this hand."""
        names = [deed[1] for deed in self._journal] + list(self._waiting)
        return Maker(self._hand, max([name[0] for name in names], default=0))

    def _step(self, width, rows):
        """Sets the cursor so many rows lower at a width, in its own column, and returns its place."""
        text = self.text()
        place = self.place()
        column = spot(text, width, place)[1]
        return self.to(stepped(text, width, place, rows, column))

    def _with(self, names):
        """The least state that has the state shown and some deeds that it has not."""
        return closure(self._history, self._state + names)

    def _show(self, state):
        """Shows another state; if it is not the same, nothing can be redone any more."""
        if state != self._state:
            self._past.forget()
        self._state = list(state)

    def _turn(self, made):
        """Lets deeds of a turn come, and returns their names."""
        names = [deed[1] for deed in made]
        if names:
            self._take_in(made)
            self._past.turn(names)
        return names

    def _take_in(self, deeds):
        """Lets new deeds come into the history and into the state, with what they rest on."""
        self._history = History(self._journal + deeds)
        self._journal = self._journal + deeds
        self._state = self._with([deed[1] for deed in deeds])


def make_line(maker, signs, line, made):
    """Makes the deeds by which a line becomes another one; given are the names of all signs up to its end."""
    ahead, behind = ends_in_common(line, made)
    gone = len(line) - ahead - behind
    up_to = signs[:len(signs) - behind]
    maker.drop(up_to[len(up_to) - gone:])
    maker.put(up_to[-1] if up_to else None, made[ahead:len(made) - behind])


def check_received(deeds, there, waiting):
    """Refuses what can be no list of deeds beside those that are there and those that wait."""
    if not isinstance(deeds, list):
        raise InvalidList(deeds)
    known = {name: there[name] for name in there}
    for name in waiting:
        known[name] = waiting[name]
    for deed in deeds:
        if not is_deed(deed) or known.get(deed[1], deed) != deed:
            raise InvalidItem(deed)
        known[deed[1]] = deed


def fitting_deeds(there, waiting):
    """The deeds, in the order of their names, of those that wait that fit those that are there and one another."""
    sizes = {name: put_size(there[name]) for name in there}
    found = []
    # What a deed rests on has lesser numbers, so it comes ahead.
    for name in sorted(waiting):
        if can_follow(waiting[name], sizes):
            sizes[name] = put_size(waiting[name])
            found.append(waiting[name])
    return found
