"""The tests' own look at what is told: written from the document alone, without the package's functions.

Each function takes any value. A room is what is told of a hall in some cases: its people, and the set of all
pairs that met, as frozensets.
"""

from itertools import product


class Room:
    """The people of a hall, and who met, in these cases; read from the text."""

    def __init__(self, text, cases):
        lines = [line.split(" ") for line in text.split("\n")]
        self.people = tuple(lines[0][1:])
        self.opens = [tuple(words[1:]) for words in lines if words[0] == "open" and words is not lines[0]]
        self.met = {frozenset((a, b)) for words in lines[1:] if words[0] == "met" for a in words[1:] for b in words[1:]
                    if a != b}
        self.met |= {frozenset(pair) for pair, word in zip(self.opens, cases) if word == "met"}

    def meet(self, one, other):
        return frozenset((one, other)) in self.met


def all_cases(hall):
    many = sum(line.startswith("open ") for line in hall.text.split("\n")[1:])
    return list(product(("met", "not"), repeat=many))


def is_strict(value):
    """Whether it is made of tuples, strings and integers only, so that == tells what the document calls equal."""
    if type(value) is tuple:
        return all(is_strict(part) for part in value)
    return type(value) in (str, int)


def line_holds(line, saying):
    word, one, other = saying
    if word == "before":
        return line.index(one) < line.index(other)
    apart = (line.index((one, "out")) < line.index((other, "in"))
             or line.index((other, "out")) < line.index((one, "in")))
    return apart == (word == "not")


def left_before(line):
    """All pairs of those who left before others came."""
    return {(a, b) for a, way in line for b, other in line
            if (way, other) == ("out", "in") and line.index((a, "out")) < line.index((b, "in"))}


def line_is_right(room, sayings, value):
    if type(value) is not tuple or not is_strict(value):
        return False
    people = room.people
    if sorted(map(repr, value)) != sorted(repr((name, way)) for name in people for way in ("in", "out")):
        return False
    if not all(value.index((name, "in")) < value.index((name, "out")) for name in people):
        return False
    gone = left_before(value)
    for a in people:
        for b in people:
            if a != b and room.meet(a, b) == ((a, b) in gone or (b, a) in gone):
                return False
    return all(line_holds(value, saying) for saying in sayings)


def unlike_people(room, value):
    return type(value) is tuple and all(name in room.people for name in value) and len(set(value)) == len(value)


def ring_is_right(room, ring):
    if not unlike_people(room, ring) or len(ring) < 4:
        return False
    next_ones = {frozenset((ring[at - 1], ring[at])) for at in range(len(ring))}
    return {pair for pair in room.met if pair <= set(ring)} == next_ones


def way_is_right(room, ends, past, way):
    if not unlike_people(room, way) or not way or (way[0], way[-1]) != ends:
        return False
    if any(name == past or room.meet(name, past) for name in way):
        return False
    return all(room.meet(way[at], way[at + 1]) for at in range(len(way) - 1))


def three_is_right(room, three, ways):
    if not unlike_people(room, three) or len(three) != 3 or type(ways) is not tuple or len(ways) != 3:
        return False
    if any(pair <= set(three) for pair in room.met):
        return False
    return all(way_is_right(room, (three[at], three[(at + 1) % 3]), three[(at + 2) % 3], ways[at]) for at in range(3))


def said_rows(room, number, saying):
    """All rows that the table of section 8 gives of a saying."""
    word, (a, first), (b, second) = saying
    why = ("said", number)
    if not room.meet(a, b) or (first, second) == ("out", "in"):
        return {(a, b, why)}
    if (first, second) == ("in", "in"):
        return {(a, z, why) for z in room.people if room.meet(z, b) and not room.meet(z, a) and z != a}
    if (first, second) == ("out", "out"):
        return {(z, b, why) for z in room.people if room.meet(z, a) and not room.meet(z, b) and z != b}
    return set()


def next_rows(room, rows):
    """All rows that are right because of the last one of these, and of none but these."""
    last = len(rows) - 1
    v, w = rows[last][:2]
    found = set()
    for z in room.people:
        if z not in (v, w) and room.meet(z, v) and not room.meet(z, w):
            found.add((z, w, ("met", last, z)))
        if z not in (v, w) and room.meet(z, w) and not room.meet(z, v):
            found.add((v, z, ("met", last, z)))
    for at, (x, m, _) in enumerate(rows):
        for to, (n, y, _) in enumerate(rows):
            if last in (at, to) and m == n and x != y:
                found.add((x, y, ("through", at, to)))
    return found


def first_rows(room, sayings):
    return {row for number, saying in enumerate(sayings) if saying[0] == "before"
            for row in said_rows(room, number, saying)}


def rows_are_right(room, sayings, rows):
    if type(rows) is not tuple or not rows or not is_strict(rows):
        return False
    right = first_rows(room, sayings)
    for at, row in enumerate(rows):
        if row not in right:
            return False
        right |= next_rows(room, rows[:at + 1])
    x, y, _ = rows[-1]
    return room.meet(x, y) or (y, x) in {row[:2] for row in rows}


def round_is_right(sayings, numbers):
    if type(numbers) is not tuple or len(numbers) < 2 or not all(type(number) is int for number in numbers):
        return False
    if len(set(numbers)) < len(numbers) or not set(numbers) <= set(range(len(sayings))):
        return False
    told = [sayings[number] for number in numbers]
    if {saying[0] for saying in told} != {"before"}:
        return False
    if len({event[1] for saying in told for event in saying[1:]}) != 1:
        return False
    return all(told[at - 1][2] == told[at][1] for at in range(len(told)))


def bar_is_right(room, sayings, value):
    if type(value) is not tuple or len(value) not in (2, 3) or type(value[0]) is not str:
        return False
    word, *told = value
    if word == "ring" and len(told) == 1:
        return ring_is_right(room, *told)
    if word == "three" and len(told) == 2:
        return three_is_right(room, *told)
    if word == "said" and len(told) == 1:
        if type(told[0]) is not int or told[0] not in range(len(sayings)):
            return False
        kind, one, other = sayings[told[0]]
        return kind != "before" and room.meet(one, other) == (kind == "not")
    if word == "rows" and len(told) == 1:
        return rows_are_right(room, sayings, *told)
    return word == "round" and len(told) == 1 and round_is_right(sayings, *told)


def barred_is_right(book, cases, value):
    """What shows_barred ought to tell."""
    room = Room(book.hall.text, cases)
    if type(value) is tuple and len(value) == 2 and value[0] == "timeline":
        return line_is_right(room, book.sayings, value[1])
    return bar_is_right(room, book.sayings, value)


def tree_is_right(book, cases_left, asked, value):
    if type(value) is tuple and value and value[0] == "ask":
        if len(value) != 4 or type(value[1]) is not int or value[1] in asked:
            return False
        if value[1] not in range(len(book.hall.opens)):
            return False
        return all(tree_is_right(book, [cases for cases in cases_left if cases[value[1]] == word],
                                 asked | {value[1]}, branch)
                   for word, branch in zip(("met", "not"), value[2:]))
    return all(bar_is_right(Room(book.hall.text, cases), book.sayings, value) for cases in cases_left)


def possible_is_right(book, value):
    """What shows_possible ought to tell."""
    if type(value) is not tuple or len(value) != 2:
        return False
    cases_of_all = all_cases(book.hall)
    if value[0] == "timeline":
        return any(line_is_right(Room(book.hall.text, cases), book.sayings, value[1]) for cases in cases_of_all)
    return value[0] == "none" and tree_is_right(book, cases_of_all, set(), value[1])
