"""Sequences: in how many ways people can stand in a row, and which one has a number."""


def others_than(name, names):
    """Gives the names without this one."""
    return tuple([other for other in names if other != name])


class Sequences:
    """All sequences of these people in which nobody is ahead of who surely was there first, by pairs of them."""

    def __init__(self, people, pairs):
        self.people = people
        self._pairs = pairs
        self._counted = {(): 1}
        self.many = self._count(people)

    def _count(self, left):
        """Gives how many sequences there are of those who are left."""
        if left not in self._counted:
            self._counted[left] = sum([self._count(others_than(name, left)) for name in self._firsts(left)])
        return self._counted[left]

    def _firsts(self, left):
        """Gives all of those who are left who can be the first one."""
        return [name for name in left if not any([(other, name) in self._pairs for other in left])]

    def with_number(self, number):
        """Gives the sequence with this number."""
        found = []
        left = self.people
        while left != ():
            firsts = self._firsts(left)
            while number >= self._count(others_than(firsts[0], left)):
                number -= self._count(others_than(firsts[0], left))
                firsts = firsts[1:]
            found.append(firsts[0])
            left = others_than(firsts[0], left)
        return found

    def number_of(self, sequence):
        """Gives the number of one of the sequences."""
        number = 0
        left = self.people
        for name in sequence:
            firsts = self._firsts(left)
            ahead = firsts[:firsts.index(name)]
            number += sum([self._count(others_than(other, left)) for other in ahead])
            left = others_than(name, left)
        return number
