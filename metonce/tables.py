"""Tables: what is told in one case of a hall, in which each two people met or did not."""

WORDS = ("met", "not")


def is_cases(hall, value):
    """Tells whether any value is cases of the hall."""
    if not isinstance(value, tuple) or len(value) != len(hall.opens):
        return False
    return all([word in WORDS for word in value])


def all_cases(hall):
    """Gives all cases of the hall."""
    found = [()]
    for _ in hall.opens:
        found = [(*cases, word) for cases in found for word in WORDS]
    return found


def met_in(hall, cases):
    """Tells of each two unlike people, either way about, whether they met in these cases."""
    pairs = [(one, other) for one in hall.people for other in hall.people if one != other]
    met = {(one, other): hall.told(one, other) == "met" for one, other in pairs}
    for (one, other), word in zip(hall.opens, cases):
        met[one, other] = word == "met"
        met[other, one] = word == "met"
    return met


class Table:
    """The people of a hall, in one case of whom met whom, and what is said of them."""

    def __init__(self, hall, sayings, cases):
        self.people = hall.people
        self.sayings = sayings
        self.cases = cases
        self.met = met_in(hall, cases)

    def met_just(self, one, other):
        """Gives all who met the one, but not the other one, and are neither."""
        others = [name for name in self.people if name not in (one, other)]
        return [name for name in others if self.met[one, name] and not self.met[other, name]]


def all_tables(hall, sayings):
    """Gives the tables of all cases of the hall."""
    return [Table(hall, sayings, cases) for cases in all_cases(hall)]
