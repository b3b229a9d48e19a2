"""Cases: what follows if it were known of each two people whether they met."""

from metonce.bars import goes_against, is_bar
from metonce.errors import BadCases, NoTimeline
from metonce.lines import line_by
from metonce.rows import paper_of
from metonce.tables import Table, is_cases
from metonce.timelines import is_timeline, met_by
from metonce.values import is_tuple_of
from metonce.ways import find_ring, find_round, find_three


def require_cases(hall, cases):
    """Raises BadCases unless the value is cases of the hall."""
    if not is_cases(hall, cases):
        raise BadCases(cases)


def outcome(table):
    """Gives what barred gives of the book and the cases of the table."""
    against = [number for number in range(len(table.sayings)) if goes_against(table, number)]
    if against != []:
        return ("said", against[0])
    paper = paper_of(table)
    if paper.wrong:
        return ("rows", tuple(paper.rows))
    numbers = find_round(table.sayings)
    if numbers != ():
        return ("round", numbers)
    line = line_by(table, paper)
    if line != ():
        return ("timeline", line)
    # Nothing that is said is against it, so it is who met: there is a ring, or else there are three.
    ring = find_ring(table)
    if ring != ():
        return ("ring", ring)
    return ("three", *find_three(table))


def sure_pairs(table):
    """Gives all pairs of those who left before others came in all timelines of a table that has one, ascending."""
    return tuple(sorted(paper_of(table).pairs))


def barred(book, cases):
    """Gives a timeline that fits in these cases, or a bar that shows that there is none."""
    require_cases(book.hall, cases)
    return outcome(Table(book.hall, book.sayings, cases))


def is_line(book, cases, value):
    """Tells whether any value is a timeline that fits, in which people meet as the cases tell."""
    if not is_timeline(book.hall, value) or not book.fits(value):
        return False
    told = Table(book.hall, book.sayings, cases).met
    return all([met_by(book.hall, value, one, other) == told[one, other] for one, other in book.hall.opens])


def shows_barred(book, cases, value):
    """Tells whether any value is what barred may give."""
    require_cases(book.hall, cases)
    if is_tuple_of(value, 2) and value[0] == "timeline":
        return is_line(book, cases, value[1])
    return is_bar(Table(book.hall, book.sayings, cases), value)


def sure(book, cases):
    """Gives the ascending tuple of all pairs, the first of whom left before the second came in all these timelines."""
    require_cases(book.hall, cases)
    table = Table(book.hall, book.sayings, cases)
    if outcome(table)[0] != "timeline":
        raise NoTimeline(cases)
    return sure_pairs(table)
