"""Sayings: what is said of two people, and whether it is so in a timeline."""

from metonce.errors import BadSaying
from metonce.timelines import is_event, meet, places_of, require_timeline
from metonce.values import is_tuple_of

CONTRARY = {"met": "not", "not": "met"}


def is_saying(hall, value):
    """Tells whether any value is a saying of the hall."""
    if not is_tuple_of(value, 3):
        return False
    word, one, other = value
    if word in ("met", "not"):
        return one in hall and other in hall and one != other
    return word == "before" and is_event(hall, one) and is_event(hall, other) and one[0] != other[0]


def require_saying(hall, saying):
    """Raises BadSaying unless the value is a saying of the hall."""
    if not is_saying(hall, saying):
        raise BadSaying(saying)


def holds(places, saying):
    """Tells whether a saying is so, by the places of the events."""
    word, one, other = saying
    if word == "before":
        return places[one] < places[other]
    return meet(places, one, other) == (word == "met")


def is_so(hall, timeline, saying):
    """Tells whether the saying is so in the timeline."""
    require_timeline(hall, timeline)
    require_saying(hall, saying)
    return holds(places_of(timeline), saying)


def contrary(hall, saying):
    """Gives the saying that is so just where this one is not."""
    require_saying(hall, saying)
    word, one, other = saying
    if word == "before":
        return (word, other, one)
    return (CONTRARY[word], one, other)
