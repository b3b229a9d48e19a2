"""What several test files need: values of every kind, all timelines, and how errors are asked for."""

from itertools import permutations

from metonce.halls import Hall

DUO = Hall("people x y z\nmet x y")
LINE = (("x", "in"), ("y", "in"), ("x", "out"), ("y", "out"), ("z", "in"), ("z", "out"))


def nested(kind, depth):
    """A value of so many tuples or lists, one within another."""
    value = "x"
    for _ in range(depth):
        value = kind([value])
    return value


def any_values():
    """Values of every kind that are neither names, events nor timelines of DUO."""
    return [
        0, 1, -1, 2, True, False, None, "", " ", "w", "X", "xx", "x ", "x y", "in", "out", "met",
        (), [], {}, ("x",), ["x"], {"x": "in"}, ("x", "in", "out"), ["x", "in"], ("in", "x"),
        ("w", "in"), ("x", "In"), ("x", "met"), ("x", True), ("x", None), ("x", ["in"]), (["x"], "in"),
        ((("x"), "in"),), (("x", "in"),), (1, "in"), (True, "in"), (None, "out"), ("x", ("in",)),
        {"x": {"in": "out"}}, nested(tuple, 30), nested(list, 30), DUO, (DUO, "in"), ("x", DUO), [DUO],
    ]


def all_timelines(people):
    """All timelines of these people, found by trying all sequences of the events."""
    events = [(name, way) for name in people for way in ("in", "out")]
    return [
        line for line in permutations(events)
        if all(line.index((name, "in")) < line.index((name, "out")) for name in people)
    ]


def renamed_line(line, names):
    return tuple((names[name], way) for name, way in line)


def raised(test, kind, call, *given, **named):
    """The value of the error of just this class that the call raises."""
    with test.assertRaises(kind) as caught:
        call(*given, **named)
    test.assertIs(type(caught.exception), kind)
    return caught.exception.value


def refuses(test, kind, value, call, *given, **named):
    """The call raises an error of this class with this very value."""
    test.assertIs(raised(test, kind, call, *given, **named), value)
