"""Whether any timeline fits a book, and what is so in all that fit."""

from metonce.bars import is_bar
from metonce.books import Book
from metonce.cases import outcome, sure_pairs
from metonce.errors import NoTimeline
from metonce.tables import all_tables
from metonce.timelines import is_timeline
from metonce.values import is_number, is_tuple_of


def agreeing(tables, number, word):
    """Gives those of the tables in which the line open with this number is told so."""
    return [table for table in tables if table.cases[number] == word]


def tree_of(tables, number):
    """Gives a tree right in these tables, which have no timeline, and agree on the lines open ahead of this number."""
    bar = outcome(tables[0])
    if all([is_bar(table, bar) for table in tables]):
        return bar
    branches = [tree_of(agreeing(tables, number, word), number + 1) for word in ("met", "not")]
    return ("ask", number, *branches)


def is_tree(tables, asked, value):
    """Tells whether any value is a tree right in these tables, in which these lines open were asked."""
    if not is_tuple_of(value, 4):
        return all([is_bar(table, value) for table in tables])
    word, number, met, apart = value
    if word != "ask" or not is_number(number, len(tables[0].cases)) or number in asked:
        return False
    now_asked = (*asked, number)
    return (is_tree(agreeing(tables, number, "met"), now_asked, met)
            and is_tree(agreeing(tables, number, "not"), now_asked, apart))


def told_of(hall, sayings):
    """Gives what possible gives, of any number of sayings."""
    tables = all_tables(hall, sayings)
    for table in tables:
        told = outcome(table)
        if told[0] == "timeline":
            return told
    return ("none", tree_of(tables, 0))


def is_fitting(book, value):
    """Tells whether any value is a timeline that fits the book."""
    return is_timeline(book.hall, value) and book.fits(value)


def is_tree_of(hall, sayings, value):
    """Tells whether any value is a tree all of whose leaves are right, of any number of sayings."""
    return is_tree(all_tables(hall, sayings), (), value)


def possible(book):
    """Gives a timeline that fits, or a tree that shows that there is none."""
    return told_of(book.hall, book.sayings)


def shows_possible(book, value):
    """Tells whether any value is what possible may give."""
    if not is_tuple_of(value, 2):
        return False
    word, shown = value
    if word == "timeline":
        return is_fitting(book, shown)
    return word == "none" and is_tree_of(book.hall, book.sayings, shown)


def surely(book):
    """Gives the ascending tuple of all pairs, the first of whom left before the second came in all that fit."""
    tables = all_tables(book.hall, book.sayings)
    found = [sure_pairs(table) for table in tables if outcome(table)[0] == "timeline"]
    if found == []:
        raise NoTimeline(book)
    return tuple([pair for pair in found[0] if all([pair in pairs for pairs in found])])


def suspects(hall):
    """Gives all people, in sequence, without whom there is a timeline that keeps the hall of the others."""
    if len(hall) == 1:
        return ()
    return tuple([name for name in hall.people if possible(Book(hall.without(name)))[0] == "timeline"])
