"""Spelling: slips between strings, names that are near, and what books mend unlike ([190] to [192])."""

from everrow.changes import Change
from everrow.demands import check_text, check_within
from everrow.errors import InvalidItem, InvalidList, InvalidText
from everrow.kinds import is_letter, is_name
from everrow.overlaps import ends_in_common
from everrow.slipping import least_string, slips_between
from everrow.words import terms_of

LONGEST_STRING = 10
MOST_NAMES = 8
MOST_SLIPS = 3


def is_string(value):
    """Whether a value is a string of few letters."""
    if not isinstance(value, str) or len(value) > LONGEST_STRING:
        return False
    return all([is_letter(sign) for sign in value])


def check_string(string):
    """Refuses what is no string of few letters."""
    if not is_string(string):
        raise InvalidText(string)


def check_book(book):
    """Refuses what is no book."""
    if not isinstance(book, list) or not 1 <= len(book) <= MOST_NAMES:
        raise InvalidList(book)
    ahead = ""
    for name in book:
        if not is_name(name) or name <= ahead:
            raise InvalidItem(name)
        ahead = name


def check_most(most):
    """Refuses what is no number of slips that are mended."""
    check_within(most, 0, MOST_SLIPS)


def slips(one, other):
    """The least sum of the slips between two strings."""
    check_string(one)
    check_string(other)
    return slips_between(one, other)


def nearest(book, string):
    """The least number of slips to a name of a book, and the list, in order, of the names with so many."""
    check_book(book)
    check_string(string)
    many = slips_to(book, string)
    return (min(many), [name for name, slipped in zip(book, many) if slipped == min(many)])


def slips_to(book, string):
    """The list of the slips between a string and each name of a book."""
    return [slips_between(name, string) for name in book]


def mended(book, string, most):
    """The first of the names nearest to a string, or None if it has more slips than so many."""
    check_book(book)
    check_string(string)
    check_most(most)
    return first_nearest(book, slips_to(book, string), most)


def first_nearest(book, many, most):
    """The first name of a book with the least of some slips, one for each name; None if these are more than most."""
    return book[many.index(min(many))] if min(many) <= most else None


def mending(book, text, most):
    """The change of a text by which each of its terms, if it is not too long, becomes what it is mended to."""
    check_book(book)
    check_text(text)
    check_most(most)
    row = list(range(len(text)))
    # From the last term on, so that those ahead still stand where they stood.
    for begin, term in reversed(terms_of(text)):
        name = first_nearest(book, slips_to(book, term), most) if is_string(term) else None
        if name is not None:
            ahead, behind = ends_in_common(term, name)
            row[begin + ahead:begin + len(term) - behind] = list(name[ahead:len(name) - behind])
    return Change(len(text), row)


def parting_string(one, other, most):
    """The least string that two books mend unlike, or None if there is none."""
    check_book(one)
    check_book(other)
    check_most(most)
    return least_string(one + other, most, lambda many: do_mend_unlike(one, other, many, most), 1)


def do_mend_unlike(one, other, many, most):
    """Whether two books mend a string unlike to which the names of both have so many slips each."""
    size = len(one)
    return first_nearest(one, many[:size], most) != first_nearest(other, many[size:], most)


def between_two(book, most):
    """The least string with so few slips to each of two names of a book, or None if there is none."""
    check_book(book)
    check_most(most)
    return least_string(book, most, lambda many: are_two_near(many, most), 2)


def are_two_near(many, most):
    """Whether two names at least have so few slips to a string as wanted, given the slips of all."""
    return len([slipped for slipped in many if slipped <= most]) > 1
