"""Books: a hall, and what is said of its people."""

from metonce.errors import BadSayings, Full, NoSaying, OtherHall
from metonce.sayings import holds, is_saying, require_saying
from metonce.timelines import keeps, places_of, require_timeline
from metonce.values import is_number

MOST_SAYINGS = 30


def are_sayings(hall, value):
    """Tells whether any value is a tuple of sayings of the hall, and of no more than a book takes."""
    if not isinstance(value, tuple) or len(value) > MOST_SAYINGS:
        return False
    return all([is_saying(hall, saying) for saying in value])


class Book:
    """A hall with sayings of it, in a sequence."""

    def __init__(self, hall, sayings=()):
        if not are_sayings(hall, sayings):
            raise BadSayings(sayings)
        self.hall = hall
        self.sayings = sayings

    def fits(self, timeline):
        """Tells whether the timeline keeps the hall, and all sayings are so in it."""
        return keeps(self.hall, timeline) and self.broken(timeline) == ()

    def broken(self, timeline):
        """Gives the ascending tuple of the numbers of all sayings that are not so in the timeline."""
        require_timeline(self.hall, timeline)
        places = places_of(timeline)
        return tuple([number for number, saying in enumerate(self.sayings) if not holds(places, saying)])

    def without(self, number):
        """Gives the Book without the saying with this number."""
        if not is_number(number, len(self.sayings)):
            raise NoSaying(number)
        return Book(self.hall, (*self.sayings[:number], *self.sayings[number + 1:]))

    def __add__(self, other):
        require_saying(self.hall, other)
        if len(self.sayings) == MOST_SAYINGS:
            raise Full(MOST_SAYINGS)
        return Book(self.hall, (*self.sayings, other))

    def __or__(self, other):
        if self.hall != other.hall:
            raise OtherHall(other)
        added = [saying for saying in other.sayings if saying not in self.sayings]
        if len(self.sayings) + len(added) > MOST_SAYINGS:
            raise Full(MOST_SAYINGS)
        return Book(self.hall, (*self.sayings, *added))

    def __len__(self):
        return len(self.sayings)

    def __contains__(self, value):
        return value in self.sayings

    def __iter__(self):
        return iter(self.sayings)

    def __eq__(self, other):
        return isinstance(other, Book) and self.hall == other.hall and self.sayings == other.sayings
