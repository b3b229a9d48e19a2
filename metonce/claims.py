"""Claims: what may be asked of a book, and the sayings by which it is so, or not so."""

from metonce.errors import BadClaim
from metonce.sayings import contrary, is_saying
from metonce.timelines import is_event
from metonce.values import is_tuple_of


def is_claim(hall, value):
    """Tells whether any value is a claim of the hall."""
    if is_saying(hall, value):
        return True
    if not is_tuple_of(value, 3):
        return False
    word, told, name = value
    if word == "there":
        return is_event(hall, told) and name in hall and name != told[0]
    return word == "within" and told in hall and name in hall and name != told


def require_claim(hall, claim):
    """Raises BadClaim unless the value is a claim of the hall."""
    if not is_claim(hall, claim):
        raise BadClaim(claim)


def so_by(claim):
    """Gives the sayings all of which are so just where the claim is so."""
    word, one, other = claim
    if word == "there":
        return (("before", (other, "in"), one), ("before", one, (other, "out")))
    if word == "within":
        return (("before", (other, "in"), (one, "in")), ("before", (one, "out"), (other, "out")))
    return (claim,)


def not_so_by(hall, claim):
    """Gives the sayings of which one is so just where the claim is not so."""
    return tuple([contrary(hall, saying) for saying in so_by(claim)])
