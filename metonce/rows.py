"""Rows: who left before who came, drawn from sayings, from who met whom, and from one another."""


def said_pairs(table, saying):
    """Gives the pairs that a saying with the word before gives."""
    _, (one, way), (other, next_way) = saying
    if not table.met[one, other] or (way, next_way) == ("out", "in"):
        return [(one, other)]
    if (way, next_way) == ("in", "in"):
        return [(one, name) for name in table.met_just(other, one)]
    if (way, next_way) == ("out", "out"):
        return [(name, other) for name in table.met_just(one, other)]
    return []


def met_pairs(table, pair):
    """Gives the pairs that follow of a pair because somebody met just one of the two, each with this person."""
    one, other = pair
    with_one = [((name, other), name) for name in table.met_just(one, other)]
    with_other = [((one, name), name) for name in table.met_just(other, one)]
    return with_one + with_other


def through_pairs(pair, next_pair):
    """Gives the pair that follows of two pairs through somebody who stands in both, if so."""
    if pair[1] == next_pair[0] and pair[0] != next_pair[1]:
        return [(pair[0], next_pair[1])]
    return []


class Paper:
    """Rows, each put behind the others; the last one is wrong if it goes against who met, or a row ahead."""

    def __init__(self, table):
        self.rows = []
        self.pairs = {}
        self.wrong = False
        self._table = table
        self._followed = 0

    def put(self, pair, why):
        """Puts a row behind the others, unless its pair is told, or the last one is wrong."""
        if self.wrong or pair in self.pairs:
            return
        one, other = pair
        self.wrong = self._table.met[pair] or (other, one) in self.pairs
        self.rows.append((one, other, why))
        self.pairs[pair] = True

    def follow(self):
        """Puts all that follows of the rows, up to the first one that is wrong."""
        while self._followed < len(self.rows) and not self.wrong:
            for pair, why in self._drawn(self._followed):
                self.put(pair, why)
            self._followed += 1

    def choose(self, pair):
        """Puts a row that nothing gives, unless its pair is told, and all that follows."""
        self.put(pair, ("chosen",))
        self.follow()

    def _drawn(self, number):
        """Gives what follows of the row with this number, by who met, or with a row ahead of it."""
        pair = self.rows[number][:2]
        drawn = [(new, ("met", number, name)) for new, name in met_pairs(self._table, pair)]
        for ahead, row in enumerate(self.rows[:number]):
            drawn += [(new, ("through", number, ahead)) for new in through_pairs(pair, row[:2])]
            drawn += [(new, ("through", ahead, number)) for new in through_pairs(row[:2], pair)]
        return drawn


def paper_of(table):
    """Gives the paper of all that the sayings give, and of what follows, up to the first row that is wrong."""
    paper = Paper(table)
    for number, saying in enumerate(table.sayings):
        if saying[0] == "before":
            for pair in said_pairs(table, saying):
                paper.put(pair, ("said", number))
    paper.follow()
    return paper
