"""Choosing: what further sayings, at the least price, settle what one wishes to know."""

from metonce.books import MOST_SAYINGS, Book
from metonce.claims import is_claim
from metonce.errors import BadOffers, BadWishes
from metonce.halls import are_unlike
from metonce.judging import judged
from metonce.possible import possible
from metonce.sayings import is_saying
from metonce.values import is_number, is_tuple_of

MOST_OFFERS = 4
MOST_PRICE = 9
MOST_WISHES = 3
WORDS = ("always", "never", "open")


def is_offer(hall, value):
    """Tells whether any value is an offer: a saying with a price."""
    if not is_tuple_of(value, 2) or not is_saying(hall, value[0]):
        return False
    return is_number(value[1], MOST_PRICE + 1) and value[1] > 0


def are_offers(hall, value):
    """Tells whether any value is offers."""
    if not isinstance(value, tuple) or not 1 <= len(value) <= MOST_OFFERS:
        return False
    if not all([is_offer(hall, offer) for offer in value]):
        return False
    # Offers of unlike sayings ascend just if they are sorted.
    return are_unlike(sayings_of(value)) and value == tuple(sorted(value))


def is_wish(hall, value):
    """Tells whether any value is a wish: a claim with what judged is to tell of it."""
    return is_tuple_of(value, 2) and is_claim(hall, value[0]) and value[1] in WORDS


def are_wishes(hall, value):
    """Tells whether any value is wishes."""
    if not isinstance(value, tuple) or not 1 <= len(value) <= MOST_WISHES:
        return False
    return all([is_wish(hall, wish) for wish in value])


def sayings_of(choice):
    """Gives the sayings of a choice."""
    return tuple([saying for saying, _ in choice])


def price_of(choice):
    """Gives the price of a choice."""
    return sum([price for _, price in choice])


def all_choices(offers):
    """Gives all choices of the offers, in sequence."""
    choices = [()]
    for offer in offers:
        choices = choices + [(*choice, offer) for choice in choices]
    return sorted(choices, key=lambda choice: (price_of(choice), len(choice), choice))


def counting_book(book, choice):
    """Gives the book with the sayings of the choice behind its own, None if the choice does not count."""
    sayings = (*book.sayings, *sayings_of(choice))
    if len(sayings) > MOST_SAYINGS:
        return None
    more = Book(book.hall, sayings)
    return None if possible(more)[0] == "none" else more


def first_failure(book, wishes):
    """Gives the number of the first wish that does not come true, with what is told of it; () if all do."""
    for number, (claim, word) in enumerate(wishes):
        told = judged(book, claim)[0]
        if told != word:
            return (number, told)
    return ()


def cheapest(book, offers, wishes):
    """Gives the first choice by which all wishes come true, and why none ahead of it."""
    if not are_offers(book.hall, offers):
        raise BadOffers(offers)
    if not are_wishes(book.hall, wishes):
        raise BadWishes(wishes)
    reasons = []
    for choice in all_choices(offers):
        more = counting_book(book, choice)
        if more is not None:
            failure = first_failure(more, wishes)
            if failure == ():
                return ("choice", price_of(choice), choice, tuple(reasons))
            reasons.append((choice, *failure))
    return ("none", tuple(reasons))
