"""Clashing: which sayings are needless, and which few of them cannot be so together."""

from metonce.errors import NoTimeline
from metonce.possible import is_fitting, is_tree_of, possible, told_of
from metonce.sayings import contrary
from metonce.values import is_number, is_tuple_of


def fits_any(hall, sayings):
    """Tells whether any timeline keeps the hall, in which these sayings are so."""
    return told_of(hall, sayings)[0] == "timeline"


def with_numbers(sayings, numbers):
    """Gives the sayings with these numbers."""
    return tuple([sayings[number] for number in numbers])


def without_item(row, place):
    """Gives the tuple without the item at this place."""
    return (*row[:place], *row[place + 1:])


def needless(book):
    """Gives the ascending tuple of the numbers of all sayings that are so in all timelines that fit without them."""
    if possible(book)[0] == "none":
        raise NoTimeline(book)
    found = []
    for number, saying in enumerate(book.sayings):
        others = without_item(book.sayings, number)
        if not fits_any(book.hall, (*others, contrary(book.hall, saying))):
            found.append(number)
    return tuple(found)


def least_numbers(book):
    """Gives numbers of sayings that cannot be so together, all of them needed, of a book that no timeline fits."""
    numbers = tuple(range(len(book.sayings)))
    for number in range(len(book.sayings)):
        others = without_item(numbers, numbers.index(number))
        # A saying that is needed among more is needed among fewer, too, so each is tried once.
        if not fits_any(book.hall, with_numbers(book.sayings, others)):
            numbers = others
    return numbers


def clash(book):
    """Gives a timeline that fits, or the numbers of least sayings that cannot be so together, with a tree."""
    told = possible(book)
    if told[0] == "timeline":
        return told
    numbers = least_numbers(book)
    return ("least", numbers, told_of(book.hall, with_numbers(book.sayings, numbers))[1])


def are_numbers(book, value):
    """Tells whether any value is an ascending tuple of numbers of sayings."""
    if not isinstance(value, tuple) or not all([is_number(number, len(book.sayings)) for number in value]):
        return False
    return all([number < next_number for number, next_number in zip(value, value[1:])])


def are_needed(hall, sayings):
    """Tells whether without any one of these sayings a timeline fits."""
    return all([fits_any(hall, without_item(sayings, place)) for place in range(len(sayings))])


def shows_least(book, numbers, tree):
    """Tells whether any values are the numbers of least sayings that cannot be so together, and a tree."""
    if not are_numbers(book, numbers):
        return False
    sayings = with_numbers(book.sayings, numbers)
    return is_tree_of(book.hall, sayings, tree) and are_needed(book.hall, sayings)


def shows_clash(book, value):
    """Tells whether any value is what clash may give."""
    if is_tuple_of(value, 2):
        return value[0] == "timeline" and is_fitting(book, value[1])
    return is_tuple_of(value, 3) and value[0] == "least" and shows_least(book, value[1], value[2])
