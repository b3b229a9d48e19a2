"""Books and what is told of them, if time runs backward, by other names, or with one person less."""

from metonce.books import Book
from metonce.halls import Hall
from tests.samples import OTHER_WAY


def turned_saying(saying):
    word, *told = saying
    if word != "before":
        return saying
    return (word, *[(name, OTHER_WAY[way]) for name, way in reversed(told)])


def turned_why(why):
    return ("through", why[2], why[1]) if why[0] == "through" else why


def turned_told(value):
    """A result of barred or possible, or a tree, as it is told if time runs backward."""
    word, *told = value
    if word == "timeline":
        return (word, tuple((name, OTHER_WAY[way]) for name, way in reversed(told[0])))
    if word == "none":
        return (word, turned_told(told[0]))
    if word == "ask":
        return (word, told[0], turned_told(told[1]), turned_told(told[2]))
    if word == "rows":
        return (word, tuple((y, x, turned_why(why)) for x, y, why in told[0]))
    if word == "round":
        return (word, told[0][::-1])
    return value


def renamed(value, names):
    """A value in which all strings that are names are other ones."""
    if isinstance(value, tuple):
        return tuple(renamed(part, names) for part in value)
    return names.get(value, value) if isinstance(value, str) else value


def renamed_book(book, names, people):
    """The same book with other names, which stand in the sequence of these people."""
    lines = [line.split(" ") for line in book.hall.text.split("\n")][1:]
    told = [" ".join((words[0], *[names[name] for name in words[1:]])) for words in lines]
    return Book(Hall("\n".join([" ".join(("people", *people)), *told])), renamed(book.sayings, names))


def book_without(book, name):
    """The book without one person, and without all sayings of this person."""
    told = []
    for saying in book.sayings:
        people = [part if isinstance(part, str) else part[0] for part in saying[1:]]
        if name not in people:
            told.append(saying)
    return Book(book.hall.without(name), tuple(told))


def turned_event(event):
    return (event[0], OTHER_WAY[event[1]])


def turned_claim(claim):
    word, one, other = claim
    if word == "there":
        return (word, turned_event(one), other)
    return claim if word == "within" else turned_saying(claim)


def turned_order(order):
    return tuple(sorted((other, one) for one, other in order))


def turned_book(book):
    return Book(book.hall, tuple(turned_saying(saying) for saying in book.sayings))


def renumbered(tree, numbers):
    """A tree, or a bar, in which sayings have the numbers that they are given here."""
    word, *told = tree
    if word == "ask":
        return (word, told[0], *[renumbered(branch, numbers) for branch in told[1:]])
    if word == "said":
        return (word, numbers.get(told[0], told[0]))
    if word == "round":
        return (word, tuple(numbers.get(number, number) for number in told[0]))
    if word == "rows":
        return (word, tuple((x, y, renumbered(why, numbers) if why[0] == "said" else why) for x, y, why in told[0]))
    return tree


def turned_judged(book, claim, value):
    """What judged tells of the claim in the book, as it is told if time runs backward."""
    word, *told = value
    if word == "open":
        return (word, *[turned_told(("timeline", line))[1] for line in told])
    trees = tuple(turned_told(tree) for tree in told[0])
    if claim[0] in ("there", "within"):
        # The two sayings of both columns change places.
        count = len(book)
        swapped = {count: count + 1, count + 1: count}
        trees = trees[::-1] if word == "always" else (renumbered(trees[0], swapped),)
    return (word, trees)


def claim_people(claim):
    """The two people of whom a claim is."""
    return [part if isinstance(part, str) else part[0] for part in claim[1:]]
