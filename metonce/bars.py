"""Bars: whether any value shows that no timeline is as a table tells."""

from metonce.halls import are_unlike
from metonce.rows import met_pairs, said_pairs, through_pairs
from metonce.values import is_number, is_tuple_of


def are_people(table, value):
    """Tells whether any value is a tuple of unlike people."""
    return isinstance(value, tuple) and all([name in table.people for name in value]) and are_unlike(value)


def is_ring(table, value):
    """Tells whether any value is a ring: the people of a bar with this word."""
    if not are_people(table, value) or len(value) < 4:
        return False
    places = [(one, other) for other in range(len(value)) for one in range(other)]
    last = len(value) - 1
    return all([table.met[value[one], value[other]] == (other - one in (1, last)) for one, other in places])


def is_way(table, start, goal, past, value):
    """Tells whether any value is a way from one to another past a third one."""
    if not are_people(table, value) or value == () or (value[0], value[-1]) != (start, goal):
        return False
    if past in value or any([table.met[past, name] for name in value]):
        return False
    return all([table.met[pair] for pair in zip(value, value[1:])])


def is_three(table, people, ways):
    """Tells whether any two values are the people and the ways of a bar with the word three."""
    if not are_people(table, people) or len(people) != 3 or not is_tuple_of(ways, 3):
        return False
    one, other, third = people
    if table.met[one, other] or table.met[other, third] or table.met[third, one]:
        return False
    turns = ((one, other, third), (other, third, one), (third, one, other))
    return all([is_way(table, start, goal, past, way) for (start, goal, past), way in zip(turns, ways)])


def goes_against(table, number):
    """Tells whether a saying with the word met or not is not so in the table."""
    word, one, other = table.sayings[number]
    return word != "before" and table.met[one, other] != (word == "met")


def is_reason(table, rows, pair, why):
    """Tells whether any value is why a pair follows, given the right rows ahead of it."""
    if is_tuple_of(why, 2) and why[0] == "said" and is_number(why[1], len(table.sayings)):
        saying = table.sayings[why[1]]
        return saying[0] == "before" and pair in said_pairs(table, saying)
    if not is_tuple_of(why, 3) or not is_number(why[1], len(rows)):
        return False
    ahead = rows[why[1]][:2]
    if why[0] == "met":
        return (pair, why[2]) in met_pairs(table, ahead)
    return why[0] == "through" and is_number(why[2], len(rows)) and pair in through_pairs(ahead, rows[why[2]][:2])


def is_row(table, rows, value):
    """Tells whether any value is a right row behind these right rows."""
    # Whatever a reason gives are two unlike people, so these need no test of their own.
    return is_tuple_of(value, 3) and is_reason(table, rows, value[:2], value[2])


def are_rows(table, value):
    """Tells whether any value is the rows of a bar with this word."""
    if not isinstance(value, tuple) or value == ():
        return False
    for number, row in enumerate(value):
        if not is_row(table, value[:number], row):
            return False
    one, other, _ = value[-1]
    return table.met[one, other] or (other, one) in [row[:2] for row in value]


def is_round(table, value):
    """Tells whether any value is the numbers of a bar with the word round."""
    if not isinstance(value, tuple) or len(value) < 2:
        return False
    if not all([is_number(number, len(table.sayings)) for number in value]) or not are_unlike(value):
        return False
    sayings = [table.sayings[number] for number in value]
    if not all([saying[0] == "before" for saying in sayings]):
        return False
    ways = [event[1] for saying in sayings for event in saying[1:]]
    nexts = [*sayings[1:], sayings[0]]
    return len(set(ways)) == 1 and all([saying[2] == after[1] for saying, after in zip(sayings, nexts)])


def is_bar(table, value):
    """Tells whether any value is a bar of the sayings in the cases of the table."""
    if is_tuple_of(value, 3):
        return value[0] == "three" and is_three(table, value[1], value[2])
    if not is_tuple_of(value, 2):
        return False
    word, told = value
    if word == "ring":
        return is_ring(table, told)
    if word == "said":
        return is_number(told, len(table.sayings)) and goes_against(table, told)
    if word == "rows":
        return are_rows(table, told)
    return word == "round" and is_round(table, told)
