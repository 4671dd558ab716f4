"""Tables: texts behind rounds of replacing all signs at once, and what becomes of them ([85] to [87], [89])."""

from everrow.demands import check_from, check_text, check_text_within, check_within
from everrow.errors import InvalidTable
from everrow.kinds import is_sign, is_text_within
from everrow.rings import Book, degree_of, does_burst, turned_once
from everrow.turns import many_after, sign_at_place

MOST_ROWS = 10
LONGEST_MADE = 4


def is_row(value):
    """Whether a value is a tuple of a sign and a text for it."""
    if not isinstance(value, tuple) or len(value) != 2:
        return False
    return is_sign(value[0]) and is_text_within(value[1], 0, LONGEST_MADE)


def check_table(table):
    """Refuses what is no table."""
    if not isinstance(table, list) or not 1 <= len(table) <= MOST_ROWS or not all([is_row(row) for row in table]):
        raise InvalidTable(table)
    if len({sign: True for sign, _ in table}) < len(table):
        raise InvalidTable(table)


def check_turning(table, text):
    """Refuses what are no table and no text."""
    check_table(table)
    check_text(text)


def check_rounds(table, text, rounds):
    """Refuses what are no table, no text and no number of rounds."""
    check_turning(table, text)
    check_from(rounds, 0)


def rules_of(table):
    """What each sign of a table makes."""
    return {sign: made for sign, made in table}


def turned(table, text):
    """The text behind one round."""
    check_turning(table, text)
    return turned_once(rules_of(table), text)


def length_after(table, text, rounds):
    """The length of a text behind so many rounds."""
    check_rounds(table, text, rounds)
    book = Book(table, text)
    return many_after(book, text, rounds, list(book.rules))


def count_after(table, text, rounds, sign):
    """How often a sign stands in a text behind so many rounds."""
    check_rounds(table, text, rounds)
    check_text_within(sign, 1, 1)
    return many_after(Book(table, text), text, rounds, [sign])


def sign_after(table, text, rounds, place):
    """The sign at a place of a text behind so many rounds."""
    check_within(place, 0, length_after(table, text, rounds) - 1)
    return sign_at_place(Book(table, text), text, rounds, place)


def fate(table, text):
    """What becomes of a text."""
    check_turning(table, text)
    return fate_of(table, text)


def fate_of(table, text):
    """The same of a text of a table."""
    book = Book(table, text)
    if does_burst(book):
        return ("bursts",)
    degree = degree_of(book, text, {})
    if degree > 0:
        return ("creeps", degree)
    rules = rules_of(table)
    met = {}
    while text not in met:
        met[text] = len(met)
        text = turned_once(rules, text)
    lead, period = met[text], len(met) - met[text]
    return ("ends", lead) if period == 1 else ("ring", lead, period)


def worst_sign(table):
    """The sign of a table with the worst fate, the first one of equally bad ones."""
    check_table(table)
    badness = [badness_of(fate_of(table, sign)) for sign, _ in table]
    return table[badness.index(max(badness))][0]


def badness_of(told):
    """How bad a fate is, as a tuple that is greater the worse it is."""
    degree = told[1] if told[0] == "creeps" else 0
    return (["ends", "ring", "creeps", "bursts"].index(told[0]), degree)


def signs_in(text):
    """The string, in order, of the different signs of a text."""
    return "".join(sorted(set(text)))


def presences(table, text):
    """The strings of the different signs behind each number of rounds, as long as they are new; and the next one."""
    rules = rules_of(table)
    rows = [signs_in(text)]
    following = signs_in(turned_once(rules, rows[0]))
    while following not in rows:
        rows.append(following)
        following = signs_in(turned_once(rules, following))
    return (rows, following)


def present(table, text, rounds):
    """The string, in order, of the different signs that stand in a text behind so many rounds."""
    check_rounds(table, text, rounds)
    rows, following = presences(table, text)
    lead = rows.index(following)
    # From the lead on the rows come again and again.
    return rows[rounds if rounds < lead else lead + (rounds - lead) % (len(rows) - lead)]


def presence(table, text):
    """The least number of rounds from which on the same signs come again, and behind how many more they do."""
    check_turning(table, text)
    rows, following = presences(table, text)
    lead = rows.index(following)
    return (lead, len(rows) - lead)
