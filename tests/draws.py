"""Halls, sayings and changed values, drawn by a source that is told its seed: each run draws the same."""

from metonce.books import Book
from metonce.halls import Hall
from tests.looks import line_holds

NAMES = ("ann", "b", "cyd", "d", "eve", "f", "gus", "h", "ian")


def draw_hall(source, people, opens):
    """A hall of so many people, with as many of the lines open as it can have."""
    names = source.sample(NAMES[:people], people)
    pairs = [(one, other) for place, one in enumerate(names) for other in names[:place]]
    source.shuffle(pairs)
    many = min(20, source.randrange(len(pairs) + 1))
    lines = [" ".join(("people", *names))]
    lines += [" ".join(("met", *pair)) for pair in pairs[:many]]
    lines += [" ".join(("open", *pair)) for pair in pairs[many:many + opens]]
    return Hall("\n".join(lines))


def draw_tree_hall(source, people):
    """A hall of people who met as the branches of a tree do: without a ring, but often with three."""
    names = source.sample(NAMES, people)
    lines = [f"met {name} {source.choice(names[max(0, place - 3):place])}" for place, name in enumerate(names) if place]
    return Hall("\n".join([" ".join(("people", *names)), *lines]))


def draw_saying(source, people):
    one, other = source.sample(people, 2)
    word = source.choice(("met", "not", *["before"] * 8))
    if word != "before":
        return (word, one, other)
    return (word, (one, source.choice(("in", "out"))), (other, source.choice(("in", "out"))))


def draw_book(source, people, opens, sayings):
    """A Book of a drawn hall with up to so many lines open and drawn sayings."""
    hall = draw_hall(source, people, source.randrange(opens + 1))
    many = source.randrange(sayings + 1) if people > 1 else 0
    return Book(hall, tuple(draw_saying(source, hall.people) for _ in range(many)))


def draw_claim(source, people):
    word = source.choice(("saying", "there", "within"))
    if word == "saying":
        return draw_saying(source, people)
    one, other = source.sample(people, 2)
    return (word, (one, source.choice(("in", "out"))), other) if word == "there" else (word, one, other)


def draw_line(source, people):
    """A timeline of these people."""
    line = []
    for name in source.sample([*people, *people], 2 * len(people)):
        line.append((name, "out" if (name, "in") in line else "in"))
    return tuple(line)


def draw_line_with_book(source, people, opens, sayings):
    """A timeline of so many people, and a Book that it fits, with so many lines open and sayings."""
    while True:
        names = source.sample(NAMES[:people], people)
        line = draw_line(source, names)
        pairs = [(one, other) for place, one in enumerate(names) for other in names[:place]]
        unknown = source.sample(pairs, min(opens, len(pairs)))
        met = [pair for pair in pairs if pair not in unknown and line_holds(line, ("met", *pair))]
        if len(met) <= 20:
            break
    lines = [" ".join(("people", *source.sample(names, people)))]
    lines += [" ".join((word, *pair)) for word, told in (("met", met), ("open", unknown)) for pair in told]
    heard = []
    while people > 1 and len(heard) < sayings:
        saying = draw_saying(source, names)
        heard += [saying] * line_holds(line, saying)
    return line, Book(Hall("\n".join(lines)), tuple(heard))


def places_in(value):
    """The ways to all parts of nested tuples: () is the value itself."""
    found = [()]
    if isinstance(value, tuple):
        found += [(at, *way) for at, part in enumerate(value) for way in places_in(part)]
    return found


def put_at(value, way, part):
    if not way:
        return part
    return (*value[:way[0]], put_at(value[way[0]], way[1:], part), *value[way[0] + 1:])


def part_at(value, way):
    for at in way:
        value = value[at]
    return value


def draw_change(source, value, people):
    """A value that is like this one but for one part."""
    way = source.choice(places_in(value))
    part = part_at(value, way)
    fresh = [source.choice(people), source.randrange(4), True, False, None, [part], (part,), "met", "not", "in", "out"]
    if isinstance(part, tuple):
        fresh += [list(part), part[1:], part[:-1], (*part, *part[:1]), tuple(reversed(part)), (*part[1:], *part[:1])]
    elif isinstance(part, int):
        fresh += [part + 1, part - 1, -1, bool(part), str(part)]
    return put_at(value, way, source.choice(fresh))
