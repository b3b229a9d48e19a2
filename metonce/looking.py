"""Looking in: at how few moments somebody would have seen everybody."""

from metonce.books import Book
from metonce.cases import barred
from metonce.errors import NoTimeline
from metonce.tables import Table
from metonce.timelines import there
from metonce.values import is_tuple_of


def in_sequence(hall, names):
    """Gives all people of the hall who are among the names, in sequence."""
    return tuple([name for name in hall.people if name in names])


def line_in(hall, cases):
    """Gives a timeline that keeps the hall in these cases; raises BadCases, then NoTimeline."""
    told = barred(Book(hall), cases)
    if told[0] != "timeline":
        raise NoTimeline(cases)
    return told[1]


def looks(hall, cases):
    """Gives groups of people who all met, which cover all, and as many people of whom no two met."""
    line = line_in(hall, cases)
    groups = []
    apart = []
    seen = []
    for name, way in line:
        # Whoever goes unseen came behind all moments chosen so far, so behind the going of all who are apart.
        if way == "out" and name not in seen:
            group = in_sequence(hall, (name, *there(hall, line, (name, way))))
            groups.append(group)
            apart.append(name)
            seen += group
    return (tuple(groups), in_sequence(hall, apart))


def are_in_sequence(hall, value):
    """Tells whether any value is a tuple of people, in sequence."""
    return isinstance(value, tuple) and value == in_sequence(hall, value)


def are_all(table, names, met):
    """Tells whether each two of the people met, or else whether no two of them did."""
    return all([table.met[one, other] == met for one in names for other in names if one != other])


def are_groups(hall, table, value):
    """Tells whether any value is a tuple of groups that cover all."""
    if not isinstance(value, tuple):
        return False
    if not all([are_in_sequence(hall, group) and are_all(table, group, True) for group in value]):
        return False
    return all([any([name in group for group in value]) for name in hall.people])


def shows_looks(hall, cases, value):
    """Tells whether any value is what looks may give."""
    line_in(hall, cases)
    if not is_tuple_of(value, 2):
        return False
    groups, apart = value
    table = Table(hall, (), cases)
    if not are_groups(hall, table, groups) or not are_in_sequence(hall, apart):
        return False
    return len(groups) == len(apart) and are_all(table, apart, False)
