"""Timelines: the events of a hall in a sequence, and what is so in it."""

from metonce.errors import BadEvent, BadTimeline
from metonce.halls import require_two

TURNED = {"in": "out", "out": "in"}


def is_event(hall, value):
    """Tells whether any value is an event of the hall."""
    if not isinstance(value, tuple) or len(value) != 2:
        return False
    name, way = value
    return name in hall and way in ("in", "out")


def places_of(timeline):
    """Gives the place of each event of a tuple of events."""
    return {event: place for place, event in enumerate(timeline)}


def is_timeline(hall, value):
    """Tells whether any value is a timeline of the hall."""
    if not isinstance(value, tuple) or len(value) != 2 * len(hall):
        return False
    if not all([is_event(hall, event) for event in value]):
        return False
    places = places_of(value)
    # As many unlike events as the hall has: none is missing below.
    return len(places) == len(value) and all([places[name, "in"] < places[name, "out"] for name in hall.people])


def require_timeline(hall, timeline):
    """Raises BadTimeline unless the value is a timeline of the hall."""
    if not is_timeline(hall, timeline):
        raise BadTimeline(timeline)


def meet(places, one, other):
    """Tells whether two people meet, by the places of the events."""
    return places[one, "in"] < places[other, "out"] and places[other, "in"] < places[one, "out"]


def met_by(hall, timeline, one, other):
    """Tells whether two people meet in the timeline."""
    require_timeline(hall, timeline)
    require_two(hall, one, other)
    return meet(places_of(timeline), one, other)


def keeps(hall, timeline):
    """Tells whether the timeline keeps the hall."""
    require_timeline(hall, timeline)
    places = places_of(timeline)
    pairs = [(one, other) for one in hall.people for other in hall.people if one != other]
    known = [(one, other) for one, other in pairs if hall.told(one, other) != "open"]
    return all([meet(places, one, other) == (hall.told(one, other) == "met") for one, other in known])


def there(hall, timeline, event):
    """Gives all other people, in sequence, who are there at the event."""
    require_timeline(hall, timeline)
    if not is_event(hall, event):
        raise BadEvent(event)
    places = places_of(timeline)
    place = places[event]
    # The person of the event is never between their own events, so needs no test.
    return tuple([name for name in hall.people if places[name, "in"] < place < places[name, "out"]])


def order_of(hall, timeline):
    """Gives the ascending tuple of all pairs, the first one of which left before the second one came."""
    require_timeline(hall, timeline)
    places = places_of(timeline)
    pairs = [(one, other) for one in hall.people for other in hall.people]
    return tuple(sorted([(one, other) for one, other in pairs if places[one, "out"] < places[other, "in"]]))


def turned(hall, timeline):
    """Gives the timeline backward."""
    require_timeline(hall, timeline)
    return tuple([(name, TURNED[way]) for name, way in reversed(timeline)])
