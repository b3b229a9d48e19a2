"""Judging: whether a claim is so in all timelines that fit a book, or in none, or in some of them."""

from metonce.claims import not_so_by, require_claim, so_by
from metonce.errors import NoTimeline
from metonce.possible import is_fitting, is_tree_of, possible, told_of
from metonce.sayings import is_so
from metonce.values import is_tuple_of


def require_judgeable(book, claim):
    """Raises BadClaim unless the value is a claim of the hall, then NoTimeline unless a timeline fits."""
    require_claim(book.hall, claim)
    if possible(book)[0] == "none":
        raise NoTimeline(book)


def judged(book, claim):
    """Gives what holds of the claim in the timelines that fit, with what shows it."""
    require_judgeable(book, claim)
    word, shown = told_of(book.hall, (*book.sayings, *so_by(claim)))
    if word == "none":
        return ("never", (shown,))
    others = [told_of(book.hall, (*book.sayings, saying)) for saying in not_so_by(book.hall, claim)]
    for other_word, other in others:
        if other_word == "timeline":
            return ("open", shown, other)
    return ("always", tuple([tree for _, tree in others]))


def is_so_in(book, timeline, claim):
    """Tells whether the claim is so in a timeline of the hall."""
    return all([is_so(book.hall, timeline, saying) for saying in so_by(claim)])


def shows_always(book, claim, trees):
    """Tells whether any value is the trees that show that the claim is always so."""
    sayings = not_so_by(book.hall, claim)
    if not is_tuple_of(trees, len(sayings)):
        return False
    return all([is_tree_of(book.hall, (*book.sayings, saying), tree) for saying, tree in zip(sayings, trees)])


def shows_never(book, claim, trees):
    """Tells whether any value is the tree, in a tuple, that shows that the claim is never so."""
    return is_tuple_of(trees, 1) and is_tree_of(book.hall, (*book.sayings, *so_by(claim)), trees[0])


def shows_open(book, claim, timeline, other):
    """Tells whether any values are timelines that fit, the claim being so in the first, and not in the other one."""
    if not is_fitting(book, timeline) or not is_fitting(book, other):
        return False
    return is_so_in(book, timeline, claim) and not is_so_in(book, other, claim)


def shows_judged(book, claim, value):
    """Tells whether any value is what judged may give."""
    require_judgeable(book, claim)
    if is_tuple_of(value, 3):
        return value[0] == "open" and shows_open(book, claim, value[1], value[2])
    if not is_tuple_of(value, 2):
        return False
    word, trees = value
    if word == "always":
        return shows_always(book, claim, trees)
    return word == "never" and shows_never(book, claim, trees)
