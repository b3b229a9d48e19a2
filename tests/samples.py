"""What several test files need: values of every kind, all timelines, and how errors are asked for."""

from functools import lru_cache
from itertools import permutations

from metonce.books import Book
from metonce.halls import Hall

DUO = Hall("people x y z\nmet x y")
LINE = (("x", "in"), ("y", "in"), ("x", "out"), ("y", "out"), ("z", "in"), ("z", "out"))
OTHER_WAY = {"in": "out", "out": "in"}


def before(words):
    """A saying with the word before, told shortly: "a b-" is that a came ahead of b's leaving."""
    one, other = [(word.rstrip("-"), "out" if word.endswith("-") else "in") for word in words.split()]
    return ("before", one, other)


def line_of(words):
    """A timeline told shortly: a name alone comes, one with a sign behind it goes."""
    return tuple((word.rstrip("-"), "out" if word.endswith("-") else "in") for word in words.split())


def nested(kind, depth):
    """A value of so many tuples or lists, one within another."""
    value = "x"
    for _ in range(depth):
        value = kind([value])
    return value


def any_values():
    """Values of every kind that are neither names, events, timelines nor sayings of DUO."""
    return [
        0, 1, -1, 2, True, False, None, "", " ", "w", "X", "xx", "x ", "x y", "in", "out", "met",
        (), [], {}, ("x",), ["x"], {"x": "in"}, ("x", "in", "out"), ["x", "in"], ("in", "x"),
        ("w", "in"), ("x", "In"), ("x", "met"), ("x", True), ("x", None), ("x", ["in"]), (["x"], "in"),
        ((("x"), "in"),), (("x", "in"),), (1, "in"), (True, "in"), (None, "out"), ("x", ("in",)),
        {"x": {"in": "out"}}, nested(tuple, 30), nested(list, 30), DUO, (DUO, "in"), ("x", DUO), [DUO],
        Book(DUO), (Book(DUO),), [Book(DUO)], {"x": Book(DUO)}, Book(DUO, (("met", "x", "y"),)),
    ]


def nearly_sayings():
    """Values that are sayings of DUO but for one thing."""
    return [
        ("met", "x"), ("met", "x", "y", "z"), ("met", "x", "x"), ("met", "x", "w"), ("met", "w", "x"),
        ["met", "x", "y"],
        ("Met", "x", "y"), ("open", "x", "y"), (True, "x", "y"), (None, "x", "y"), (["met"], "x", "y"), ("x", "y"),
        ("met", ("x", "in"), ("y", "in")), ("met", ["x"], "y"), ("met", "x", 1), ("met", None, "y"), ("met", "x", DUO),
        ("not", "y", "y"), ("not", "y", "v"), ("not", "y"), ["not", "x", "y"], (("met", "x", "y"),),
        {"met": ("x", "y")},
        ("before", "x", "y"), ("before", ("x", "in"), ("x", "out")), ("before", ("x", "in"), ("x", "in")),
        ("before", ("x", "out"), ("x", "in")), ("before", ("x", "in"), ["y", "in"]),
        ["before", ("x", "in"), ("y", "in")],
        ("before", ["x", "in"], ("y", "in")), ("before", ("x", "in"), ("w", "in")),
        ("before", ("w", "in"), ("y", "in")),
        ("before", ("x", "In"), ("y", "in")), ("before", ("x", "in"), ("y", 1)), ("before", ("x", "in"), ("y",)),
        ("before", ("x", "in"), ("y", "in"), ("z", "in")), ("before", ("x", "in")), ("before", ("x", "in"), "y"),
        ("before", (("x", "in"), ("y", "in"))), ("behind", ("x", "in"), ("y", "in")), ("before", None, None),
        ("before", ("x", True), ("y", "in")), ("before", ("in", "x"), ("in", "y")), ("before", nested(tuple, 29), ()),
        ("met", Book(DUO), "x"), ("met", "x", nested(list, 29)), (Book(DUO), "x", "y"), (DUO, "x", "y"),
        ("there", ("x", "in"), "y"), ("within", "x", "y"), "met x y", (("x", "in"), ("y", "in")), ("met", "X", "y"),
    ]


@lru_cache(maxsize=None)
def all_timelines(people):
    """The tuple of all timelines of these people, found by trying all sequences of the events."""
    events = [(name, way) for name in people for way in ("in", "out")]
    return tuple(
        line for line in permutations(events)
        if all(line.index((name, "in")) < line.index((name, "out")) for name in people)
    )


def all_sayings(people):
    """All sayings of these people."""
    pairs = [(one, other) for one in people for other in people if one != other]
    ways = [(first, second) for first in ("in", "out") for second in ("in", "out")]
    told = [(word, one, other) for word in ("met", "not") for one, other in pairs]
    return told + [("before", (one, first), (other, second)) for one, other in pairs for first, second in ways]


def renamed_line(line, names):
    return tuple((names[name], way) for name, way in line)


def raised(test, kind, call, *given, **named):
    """The value of the error of just this class that the call raises."""
    with test.assertRaises(kind) as caught:
        call(*given, **named)
    test.assertIs(type(caught.exception), kind)
    return caught.exception.value


def refuses(test, kind, value, call, *given, **named):
    """The call raises an error of this class with this very value."""
    test.assertIs(raised(test, kind, call, *given, **named), value)
