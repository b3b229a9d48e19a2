"""Orders: how many there can have been, which one has a number, and a timeline of each."""

from metonce.bars import goes_against
from metonce.cases import outcome
from metonce.errors import BadNumber, BadOrder
from metonce.forks import forks_of
from metonce.lines import ahead_of, line_made
from metonce.possible import is_fitting
from metonce.rows import paper_of
from metonce.sequences import Sequences
from metonce.tables import Table, all_tables
from metonce.timelines import order_of
from metonce.values import is_number, is_tuple_of


def as_told(people, order):
    """Gives people, no two of whom met, in the sequence that the order tells of them."""
    return sorted(people, key=lambda name: len([other for other in people if (other, name) in order]))


class CaseOrders:
    """The orders of all timelines that fit in one case."""

    def __init__(self, table):
        self.table = table
        self.many = 0
        self._choices = []
        if outcome(table)[0] == "timeline":
            pairs = paper_of(table).pairs
            self._choices = [Sequences(fork, pairs) for fork in forks_of(table, table.people)]
            self.many = 1
            for choice in self._choices:
                self.many = self.many * choice.many

    def with_number(self, number):
        """Gives the order with this number."""
        chosen = []
        for choice in self._choices:
            number, place = divmod(number, choice.many)
            row = choice.with_number(place)
            chosen += list(zip(row, row[1:]))
        paper = paper_of(self.table)
        for pair in chosen:
            paper.choose(pair)
        return tuple(sorted(paper.pairs))

    def number_of(self, order):
        """Gives the number of one of the orders."""
        number = 0
        for choice in reversed(self._choices):
            number = number * choice.many + choice.number_of(as_told(choice.people, order))
        return number


def all_orders(book):
    """Gives the orders of each case."""
    return [CaseOrders(table) for table in all_tables(book.hall, book.sayings)]


def many(book):
    """Gives how many orders the timelines have that fit."""
    return sum([case.many for case in all_orders(book)])


def nth(book, number):
    """Gives the order with this number."""
    cases = all_orders(book)
    if not is_number(number, sum([case.many for case in cases])):
        raise BadNumber(number)
    place = 0
    while number >= cases[place].many:
        number -= cases[place].many
        place += 1
    return cases[place].with_number(number)


def are_pairs(hall, value):
    """Tells whether any value is an ascending tuple of pairs of unlike people."""
    if not isinstance(value, tuple):
        return False
    for pair in value:
        if not is_tuple_of(pair, 2) or pair[0] not in hall or pair[1] not in hall or pair[0] == pair[1]:
            return False
    return all([pair < next_pair for pair, next_pair in zip(value, value[1:])])


def is_apart(order, one, other):
    """Tells whether the order tells that one of two people left before the other one came."""
    return (one, other) in order or (other, one) in order


def cases_of(hall, order):
    """Gives the cases in which the order can be."""
    return tuple(["not" if is_apart(order, one, other) else "met" for one, other in hall.opens])


def line_by_order(book, order):
    """Gives a timeline that fits and has this order, () if any value is not the order of one."""
    if not are_pairs(book.hall, order):
        return ()
    table = Table(book.hall, book.sayings, cases_of(book.hall, order))
    if any([table.met[one, other] == is_apart(order, one, other) for one, other in table.met]):
        return ()
    if any([goes_against(table, number) for number in range(len(table.sayings))]):
        return ()
    return line_made(ahead_of(table, order))


def require_order(book, order):
    """Raises BadOrder unless the value is the order of a timeline that fits."""
    if line_by_order(book, order) == ():
        raise BadOrder(order)


def number_of(book, order):
    """Gives the number of the order."""
    require_order(book, order)
    cases = all_orders(book)
    place = [case.table.cases for case in cases].index(cases_of(book.hall, order))
    return sum([case.many for case in cases[:place]]) + cases[place].number_of(order)


def line_of(book, order):
    """Gives a timeline that fits and has this order."""
    require_order(book, order)
    return line_by_order(book, order)


def shows_line_of(book, order, value):
    """Tells whether any value is what line_of may give."""
    require_order(book, order)
    return is_fitting(book, value) and order_of(book.hall, value) == order
