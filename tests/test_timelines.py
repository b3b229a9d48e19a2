"""Point 5, with what point 2 says of it."""

import copy
import unittest

from metonce.errors import BadEvent, BadTimeline, NoPerson
from metonce.halls import Hall
from metonce.timelines import met_by, order_of, there, turned
from tests.samples import DUO, LINE, all_timelines, any_values, line_of, nested, refuses

TRIO = ("x", "y", "z")


def nearly_right():
    """Values that are timelines of DUO but for one thing."""
    return [
        LINE[:5], LINE[1:], (*LINE, ("x", "in")), (*LINE, ("w", "in")), (*LINE, ("w", "in"), ("w", "out")),
        list(LINE), [list(event) for event in LINE], tuple(list(event) for event in LINE),
        (*LINE[:5], ["z", "out"]), (["x", "in"], *LINE[1:]), (*LINE[:5], ("z", "in")), (*LINE[:5], ("y", "out")),
        (*LINE[:5], ("w", "out")), (*LINE[:4], ("w", "in"), ("w", "out")), (*LINE[:5], ("z", "Out")),
        (*LINE[:5], ("z", True)), (*LINE[:5], ("z", "out", "out")), (*LINE[:5], ("z",)), (*LINE[:5], "z"),
        (*LINE[:5], None), (*LINE[:5], 1), (*LINE[:5], ()), (*LINE[:5], {"z": "out"}), (*LINE[:5], (LINE[5],)),
        (*LINE[:5], DUO), (*LINE[:5], (["z"], "out")), (*LINE[:5], ("z", ["out"])), (*LINE[:5], nested(tuple, 29)),
        (*LINE[:4], ("z", "out"), ("z", "in")), (LINE[2], LINE[1], LINE[0], *LINE[3:]), tuple(reversed(LINE)),
        (LINE,), ("x", "y", "x", "y", "z", "z"), dict.fromkeys(LINE), line_of("x x-"), line_of("x x- y y-"),
    ]


class TimelinesTest(unittest.TestCase):
    def test_the_example_of_the_document(self):
        self.assertEqual(
            [met_by(DUO, LINE, "x", "y"), there(DUO, LINE, ("x", "out")), order_of(DUO, LINE), turned(DUO, LINE)[:3]],
            [True, ("y",), (("x", "z"), ("y", "z")), (("z", "in"), ("z", "out"), ("y", "in"))])

    def test_by_names(self):
        self.assertIs(met_by(hall=DUO, timeline=LINE, one="x", other="z"), False)
        self.assertEqual(there(hall=DUO, timeline=LINE, event=("y", "in")), ("x",))
        self.assertEqual(order_of(hall=DUO, timeline=LINE), (("x", "z"), ("y", "z")))
        self.assertEqual(turned(hall=DUO, timeline=turned(hall=DUO, timeline=LINE)), LINE)

    def test_what_is_no_timeline(self):
        for value in [*any_values(), *nearly_right()]:
            refuses(self, BadTimeline, value, met_by, DUO, value, "x", "y")
            refuses(self, BadTimeline, value, there, DUO, value, ("x", "in"))
            refuses(self, BadTimeline, value, order_of, DUO, value)
            refuses(self, BadTimeline, value, turned, DUO, value)

    def test_a_timeline_is_that_of_its_hall(self):
        line = line_of("x x- y y-")
        less = Hall("people x y")
        self.assertEqual(order_of(less, line), (("x", "y"),))
        for call in (order_of, turned):
            refuses(self, BadTimeline, line, call, DUO, line)
            refuses(self, BadTimeline, line, call, Hall("people x w"), line)
            refuses(self, BadTimeline, LINE, call, less, LINE)

    def test_it_need_not_keep_the_hall(self):
        line = line_of("z x x- y y- z-")
        self.assertIs(met_by(DUO, line, "x", "y"), False)
        self.assertIs(met_by(DUO, line, "x", "z"), True)
        self.assertEqual(order_of(DUO, line), (("x", "y"),))

    def test_the_timeline_is_asked_ahead_of_all_else(self):
        wrong = list(LINE)
        refuses(self, BadTimeline, wrong, met_by, DUO, wrong, None, None)
        refuses(self, BadTimeline, wrong, met_by, DUO, other=None, one=[], timeline=wrong)
        refuses(self, BadTimeline, wrong, there, DUO, wrong, None)

    def test_nothing_is_changed(self):
        for value in nearly_right():
            kept = copy.deepcopy(value)
            refuses(self, BadTimeline, value, order_of, DUO, value)
            self.assertEqual(value, kept)
        event = ["x", "in"]
        refuses(self, BadEvent, event, there, DUO, LINE, event)
        self.assertEqual(event, ["x", "in"])
        self.assertEqual(DUO, Hall("people x y z\nmet x y"))

    def test_equal_calls_equal_results(self):
        for _ in range(2):
            self.assertIs(met_by(DUO, LINE, "x", "y"), True)
            self.assertEqual(there(DUO, LINE, ("z", "in")), ())
            self.assertEqual(order_of(DUO, LINE), (("x", "z"), ("y", "z")))
            self.assertEqual(turned(DUO, LINE), line_of("z z- y x y- x-"))

    def test_functions_stand_in_their_file(self):
        for function in (met_by, there, order_of, turned):
            self.assertEqual(function.__module__, "metonce.timelines")


class MetByTest(unittest.TestCase):
    def test_apart_overlapping_and_within(self):
        hall = Hall("people x y")
        for words, met in (("x x- y y-", False), ("y y- x x-", False), ("x y x- y-", True), ("y x y- x-", True),
                           ("x y y- x-", True), ("y x x- y-", True)):
            self.assertIs(met_by(hall, line_of(words), "x", "y"), met, words)
            self.assertIs(met_by(hall, line_of(words), "y", "x"), met, words)

    def test_all_timelines_of_three(self):
        for line in all_timelines(TRIO):
            for one, other in ("xy", "xz", "yz", "zy"):
                inside = set()
                met = False
                for name, way in line:
                    inside = inside | {name} if way == "in" else inside - {name}
                    met = met or {one, other} <= inside
                self.assertIs(met_by(DUO, line, one, other), met)

    def test_who_is_no_person(self):
        for value in any_values():
            refuses(self, NoPerson, value, met_by, DUO, LINE, value, "x")
            refuses(self, NoPerson, value, met_by, DUO, LINE, "x", value)
            refuses(self, NoPerson, value, met_by, DUO, LINE, value, value)
            refuses(self, NoPerson, value, met_by, DUO, LINE, value, ["w"])

    def test_the_same_person(self):
        for name in TRIO:
            refuses(self, NoPerson, name, met_by, DUO, LINE, name, name)


class ThereTest(unittest.TestCase):
    def test_who_is_there(self):
        hall = Hall("people a b c")
        line = line_of("c a b a- b- c-")
        found = [there(hall, line, event) for event in line]
        self.assertEqual(found, [(), ("c",), ("a", "c"), ("b", "c"), ("c",), ()])

    def test_in_the_sequence_of_the_hall(self):
        line = line_of("a b c c- a- b-")
        self.assertEqual(there(Hall("people b c a"), line, ("c", "in")), ("b", "a"))
        self.assertEqual(there(Hall("people a b c"), line, ("c", "in")), ("a", "b"))

    def test_somebody_alone(self):
        self.assertEqual(there(Hall("people a"), (("a", "in"), ("a", "out")), ("a", "in")), ())

    def test_all_timelines_of_three(self):
        for line in all_timelines(TRIO):
            for at, (name, way) in enumerate(line):
                ahead, behind = line[:at], line[at + 1:]
                inside = tuple(one for one in TRIO if one != name and (one, "in") in ahead and (one, "out") in behind)
                self.assertEqual(there(DUO, line, (name, way)), inside)

    def test_what_is_no_event(self):
        for value in any_values():
            refuses(self, BadEvent, value, there, DUO, LINE, value)


class OrderOfTest(unittest.TestCase):
    def test_all_apart_and_all_together(self):
        hall = Hall("people c a b")
        self.assertEqual(order_of(hall, line_of("c c- b b- a a-")), (("b", "a"), ("c", "a"), ("c", "b")))
        self.assertEqual(order_of(hall, line_of("c b a a- b- c-")), ())
        self.assertEqual(order_of(Hall("people a"), line_of("a a-")), ())

    def test_all_timelines_of_three(self):
        hall = Hall("people z x y")
        for line in all_timelines(TRIO):
            pairs = [(one, other) for one in TRIO for other in TRIO
                     if line.index((one, "out")) < line.index((other, "in"))]
            self.assertEqual(order_of(hall, line), tuple(sorted(pairs)))

    def test_nine_people(self):
        names = "ihgfedcba"
        hall = Hall("people " + " ".join(names))
        line = tuple((name, way) for name in names for way in ("in", "out"))
        self.assertEqual(order_of(hall, line), tuple((a, b) for a in sorted(names) for b in sorted(names) if a > b))


class TurnedTest(unittest.TestCase):
    def test_backward(self):
        self.assertEqual(turned(DUO, line_of("x y x- z y- z-")), line_of("z y z- x y- x-"))
        self.assertEqual(turned(Hall("people a"), line_of("a a-")), line_of("a a-"))

    def test_twice_is_the_timeline(self):
        for line in all_timelines(TRIO):
            back = turned(DUO, line)
            self.assertEqual(len(back), 6)
            self.assertIs(type(back), tuple)
            self.assertEqual(turned(DUO, back), line)


if __name__ == "__main__":
    unittest.main()
