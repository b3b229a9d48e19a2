"""Point 3, (b) and (d), of what sections 4 and 5 tell."""

import unittest
from itertools import permutations

from metonce.halls import Hall
from metonce.timelines import met_by, order_of, there, turned
from tests.samples import OTHER_WAY, all_timelines, renamed_line

PEOPLE = ("x", "y", "z")
TEXT = "people x y z\nmet x y\nopen y z"
PAIRS = [(one, other) for one in PEOPLE for other in PEOPLE if one != other]


class BackwardTest(unittest.TestCase):
    def test_the_same_is_told_so_turned(self):
        hall = Hall(TEXT)
        for line in all_timelines(PEOPLE):
            back = turned(hall, line)
            self.assertEqual(order_of(hall, back), tuple(sorted((b, a) for a, b in order_of(hall, line))))
            for one, other in PAIRS:
                self.assertEqual(met_by(hall, back, one, other), met_by(hall, line, one, other))
            for name, way in line:
                self.assertEqual(there(hall, back, (name, OTHER_WAY[way])), there(hall, line, (name, way)))


class NamesTest(unittest.TestCase):
    def other_halls(self):
        """TEXT with other names, and the people in other sequences: pairs of the Hall and the names."""
        for fresh in (("x", "y", "z"), ("y", "z", "x"), ("zed", "yo", "abcdefgh"), ("met", "open", "people")):
            names = dict(zip(PEOPLE, fresh))
            for row in permutations(fresh):
                lines = [" ".join(("people", *row)), f"met {names['x']} {names['y']}",
                         f"open {names['y']} {names['z']}"]
                yield Hall("\n".join(lines)), names

    def test_halls_tell_the_same(self):
        hall = Hall(TEXT)
        for other, names in self.other_halls():
            self.assertEqual(other.opens, ((names["y"], names["z"]),))
            self.assertEqual(len(other), len(hall))
            for a, b in PAIRS:
                self.assertEqual(other.told(names[a], names[b]), hall.told(a, b))
            for name in PEOPLE:
                less, fewer = hall.without(name), other.without(names[name])
                self.assertEqual(sorted(fewer.people), sorted(names[one] for one in less.people))
                for a, b in PAIRS:
                    if name not in (a, b):
                        self.assertEqual(fewer.told(names[a], names[b]), less.told(a, b))

    def test_timelines_tell_the_same(self):
        hall = Hall(TEXT)
        lines = all_timelines(PEOPLE)[::7]
        for other, names in self.other_halls():
            for line in lines:
                fresh = renamed_line(line, names)
                self.assertEqual(order_of(other, fresh),
                                 tuple(sorted((names[a], names[b]) for a, b in order_of(hall, line))))
                self.assertEqual(turned(other, fresh), renamed_line(turned(hall, line), names))
                for one, two in PAIRS:
                    self.assertEqual(met_by(other, fresh, names[one], names[two]), met_by(hall, line, one, two))
                for name, way in line:
                    inside = [names[one] for one in there(hall, line, (name, way))]
                    self.assertEqual(there(other, fresh, (names[name], way)),
                                     tuple(one for one in other.people if one in inside))


if __name__ == "__main__":
    unittest.main()
