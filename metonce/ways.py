"""Ways: from one to another by steps, and what is made of ways that cannot be in any timeline."""


def shortest_way(start, goals, allowed, steps):
    """Gives a shortest way from the start to one of the goals past all that is not allowed, () if there is none.

    Steps tells of each two whether there is a step from the first to the second one. The start is no goal.
    """
    ways = [(start,)]
    left = [place for place in allowed if place != start]
    while ways:
        way = ways.pop(0)
        if way[-1] in goals:
            return way
        found = [place for place in left if steps[way[-1], place]]
        left = [place for place in left if place not in found]
        ways += [(*way, place) for place in found]
    return ()


def find_ring(table):
    """Gives the people of any ring of four or more, each of whom met just the next ones; () if there is none."""
    for name in table.people:
        near = [other for other in table.people if other != name and table.met[name, other]]
        far = [other for other in table.people if other != name and not table.met[name, other]]
        for one in near:
            goals = [other for other in near if other != one and not table.met[one, other]]
            for goal in goals:
                # A shortest way has no short cut, so with the name, whom none between met, it is a ring.
                way = shortest_way(one, [goal], [*far, goal], table.met)
                if way != ():
                    return (name, *way)
    return ()


def way_past(table, start, goal, past):
    """Gives a way from one to another past a third one, () if there is none."""
    allowed = [name for name in table.people if name != past and not table.met[past, name]]
    return shortest_way(start, [goal], allowed, table.met)


def apart_threes(table):
    """Gives each three people, no two of whom met, in one sequence of them."""
    pairs = [(one, other) for one in table.people for other in table.people if one < other]
    apart = [(one, other) for one, other in pairs if not table.met[one, other]]
    return [(one, other, third) for one, other in apart for third in table.people
            if (other, third) in apart and (one, third) in apart]


def find_three(table):
    """Gives three people, no two of whom met, with their ways past one another; () if there are none."""
    for one, other, third in apart_threes(table):
        ways = (way_past(table, one, other, third), way_past(table, other, third, one),
                way_past(table, third, one, other))
        if () not in ways:
            return ((one, other, third), ways)
    return ()


def is_of_one_kind(saying):
    """Tells whether a saying puts the coming of one ahead of that of another one, or the leaving so."""
    word, one, other = saying
    return word == "before" and one[1] == other[1]


def find_round(sayings):
    """Gives the numbers of sayings of any round, () if there is none."""
    numbers = [number for number, saying in enumerate(sayings) if is_of_one_kind(saying)]
    # Next to one another are only sayings of the same kind, so the two kinds need not be parted.
    steps = {(one, other): sayings[one][2] == sayings[other][1] for one in numbers for other in numbers}
    for number in numbers:
        goals = [other for other in numbers if steps[other, number]]
        way = shortest_way(number, goals, numbers, steps)
        if way != ():
            return way
    return ()
