"""The tests' own answers: found from the document alone, without the package's functions.

Of each two people who did not meet it is tried who left first, until no two are left; what must be behind
what is kept closed on the way. So all orders are found, each once, and each with a timeline.
"""

from itertools import combinations
from types import SimpleNamespace

from tests.looks import (Room, all_cases, left_before, line_holds, line_is_right, possible_is_right, tree_is_right)

OTHERWISE = {"met": "not", "not": "met"}


class Flow:
    """What is behind what, closed: for each event the set of all behind it, as bits."""

    def __init__(self, events):
        self.places = {event: place for place, event in enumerate(events)}
        self.behind = [1 << place for place in range(len(events))]

    def with_step(self, one, other):
        """The Flow in which the one event is also ahead of the other one; None if that cannot be."""
        one, other = self.places[one], self.places[other]
        if self.behind[other] >> one & 1:
            return None
        more = Flow(())
        more.places = self.places
        more.behind = [held | self.behind[other] if held >> one & 1 else held for held in self.behind]
        return more


def first_flow(room, sayings):
    flow = Flow([(name, way) for name in room.people for way in ("in", "out")])
    steps = [((name, "in"), (name, "out")) for name in room.people]
    for pair in room.met:
        one, other = sorted(pair)
        steps += [((one, "in"), (other, "out")), ((other, "in"), (one, "out"))]
    for word, one, other in sayings:
        if word == "before":
            steps.append((one, other))
        elif room.meet(one, other) == (word == "not"):
            return None
    for one, other in steps:
        flow = flow and flow.with_step(one, other)
    return flow


def chosen(flow, left, order):
    """All orders in which these pairs, and who is left first of each two who are left, are so."""
    if not left:
        yield frozenset(order)
        return
    tried = []
    for one, other in left:
        found = []
        for a, b in ((one, other), (other, one)):
            more = flow.with_step((a, "out"), (b, "in"))
            if more is not None:
                found.append((more, (a, b)))
        tried.append((len(found), (one, other), found))
        if len(found) < 2:
            break
    _, pair, found = min(tried, key=lambda told: told[0])
    rest = [other for other in left if other != pair]
    for more, told in found:
        yield from chosen(more, rest, [*order, told])


def orders_in(room, sayings):
    """All orders of timelines that fit in these cases, as frozensets."""
    flow = first_flow(room, sayings)
    if flow is not None:
        yield from chosen(flow, [pair for pair in combinations(room.people, 2) if not room.meet(*pair)], [])


def orders_of(hall, sayings):
    """All orders of timelines that fit, as the document tells them."""
    for cases in all_cases(hall):
        for order in orders_in(Room(hall.text, cases), sayings):
            yield tuple(sorted(order))


def fits_any(hall, sayings):
    return next(orders_of(hall, sayings), None) is not None


def claim_parts(claim):
    """The sayings of the second column of section 10, and those of the third one."""
    word, one, other = claim
    if word == "there":
        return ([("before", (other, "in"), one), ("before", one, (other, "out"))],
                [("before", one, (other, "in")), ("before", (other, "out"), one)])
    if word == "within":
        return ([("before", (other, "in"), (one, "in")), ("before", (one, "out"), (other, "out"))],
                [("before", (one, "in"), (other, "in")), ("before", (other, "out"), (one, "out"))])
    return [claim], [(word, other, one) if word == "before" else (OTHERWISE[word], one, other)]


def claim_holds(line, claim):
    """Whether the claim is so in the timeline, as its words say."""
    word, one, other = claim
    if word == "there":
        return line.index((other, "in")) < line.index(one) < line.index((other, "out"))
    if word == "within":
        return (line.index((one, "in")) > line.index((other, "in"))
                and line.index((one, "out")) < line.index((other, "out")))
    return line_holds(line, claim)


def word_of(hall, sayings, claim):
    """What judged ought to tell first, None if no timeline fits."""
    so, not_so = claim_parts(claim)
    can_be = fits_any(hall, (*sayings, *so))
    can_not_be = any(fits_any(hall, (*sayings, saying)) for saying in not_so)
    return {(True, True): "open", (True, False): "always", (False, True): "never", (False, False): None}[
        can_be, can_not_be]


def tree_fits(hall, sayings, tree):
    """Whether all leaves of the tree are right for these sayings, of which there may be any number."""
    return tree_is_right(SimpleNamespace(hall=hall, sayings=tuple(sayings)), all_cases(hall), set(), tree)


def judged_is_right(book, claim, value):
    """What shows_judged ought to tell."""
    if type(value) is not tuple or len(value) not in (2, 3) or type(value[0]) is not str:
        return False
    so, not_so = claim_parts(claim)
    word, *told = value
    if word == "open" and len(told) == 2:
        if not all(possible_is_right(book, ("timeline", line)) for line in told):
            return False
        return claim_holds(told[0], claim) and not claim_holds(told[1], claim)
    if len(told) != 1 or type(told[0]) is not tuple:
        return False
    trees = told[0]
    if word == "never":
        return len(trees) == 1 and tree_fits(book.hall, [*book.sayings, *so], trees[0])
    return word == "always" and len(trees) == len(not_so) and all(
        tree_fits(book.hall, [*book.sayings, saying], tree) for saying, tree in zip(not_so, trees))


def line_of_is_right(book, order, value):
    """What shows_line_of ought to tell of an order of the book."""
    return possible_is_right(book, ("timeline", value)) and tuple(sorted(left_before(value))) == order


def clash_is_right(book, value):
    """What shows_clash ought to tell."""
    if type(value) is not tuple or len(value) not in (2, 3) or type(value[0]) is not str:
        return False
    if len(value) == 2:
        return value[0] == "timeline" and possible_is_right(book, value)
    word, numbers, tree = value
    if word != "least" or type(numbers) is not tuple or not all(type(number) is int for number in numbers):
        return False
    if list(numbers) != sorted(set(numbers)) or not set(numbers) <= set(range(len(book.sayings))):
        return False
    few = [book.sayings[number] for number in numbers]
    return tree_fits(book.hall, few, tree) and all(
        fits_any(book.hall, few[:place] + few[place + 1:]) for place in range(len(few)))


def needless_of(book):
    """What needless ought to tell of a book that some timeline fits."""
    found = []
    for number, saying in enumerate(book.sayings):
        others = book.sayings[:number] + book.sayings[number + 1:]
        if not fits_any(book.hall, (*others, *claim_parts(saying)[1])):
            found.append(number)
    return tuple(found)


def stands_in_sequence(people, value):
    return type(value) is tuple and list(value) == [name for name in people if name in value]


def looks_is_right(hall, cases, value):
    """What shows_looks ought to tell."""
    if type(value) is not tuple or len(value) != 2 or type(value[0]) is not tuple:
        return False
    room = Room(hall.text, cases)
    groups, apart = value
    if not all(stands_in_sequence(room.people, told) for told in (*groups, apart)):
        return False
    if not all(room.meet(*pair) for group in groups for pair in combinations(group, 2)):
        return False
    if {name for group in groups for name in group} != set(room.people):
        return False
    return len(groups) == len(apart) and not any(room.meet(*pair) for pair in combinations(apart, 2))


def fewest_looks(room):
    """At how few moments all can be seen: by trying how many people can be apart, the most first."""
    return max(many for many in range(len(room.people) + 1) if any(
        not any(room.meet(*pair) for pair in combinations(names, 2)) for names in combinations(room.people, many)))


def is_line_in(hall, cases, line):
    return line_is_right(Room(hall.text, cases), (), line)


def cheapest_of(hall, sayings, offers, wishes, word_told=word_of):
    """What cheapest ought to tell; word_told gives what judged ought to tell first, None if no timeline fits."""
    choices = [choice for many in range(len(offers) + 1) for choice in combinations(offers, many)]
    choices.sort(key=lambda choice: (sum(price for _, price in choice), len(choice), choice))
    reasons = []
    for choice in choices:
        more = (*sayings, *[saying for saying, _ in choice])
        if len(more) > 30 or word_told(hall, more, wishes[0][0]) is None:
            continue
        told = [(number, word_told(hall, more, claim)) for number, (claim, _) in enumerate(wishes)]
        wrong = [(number, word) for number, word in told if word != wishes[number][1]]
        if not wrong:
            return ("choice", sum(price for _, price in choice), choice, tuple(reasons))
        reasons.append((choice, *wrong[0]))
    return ("none", tuple(reasons))
