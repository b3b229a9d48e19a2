"""Point 6, with what point 2 says of it."""

import copy
import unittest

from metonce.errors import BadSaying, BadTimeline
from metonce.halls import Hall
from metonce.sayings import contrary, is_so
from tests.looks import line_holds
from tests.samples import (DUO, LINE, all_sayings, all_timelines, any_values, before, line_of, nearly_sayings, raised,
                           refuses)

TRIO = ("x", "y", "z")


class SayingsTest(unittest.TestCase):
    def test_the_example_of_the_document(self):
        self.assertIs(is_so(DUO, LINE, ("met", "y", "z")), False)
        self.assertEqual(contrary(DUO, ("before", ("x", "in"), ("y", "in"))), ("before", ("y", "in"), ("x", "in")))

    def test_all_sayings_in_all_timelines_of_three(self):
        for line in all_timelines(TRIO):
            for saying in all_sayings(TRIO):
                told = is_so(DUO, line, saying)
                self.assertIs(told, line_holds(line, saying), (line, saying))
                self.assertIs(is_so(DUO, line, contrary(DUO, saying)), not told)

    def test_each_kind(self):
        line = line_of("a b a- c b- c-")
        hall = Hall("people a b c")
        for saying, so in ((("met", "a", "b"), True), (("met", "b", "a"), True), (("met", "a", "c"), False),
                           (("not", "a", "b"), False), (("not", "c", "a"), True), (("met", "c", "b"), True),
                           (before("a b"), True), (before("b a"), False), (before("a- c"), True),
                           (before("c a-"), False), (before("c b-"), True), (before("b- c"), False),
                           (before("b- c-"), True), (before("c- b-"), False)):
            self.assertIs(is_so(hall, line, saying), so, saying)

    def test_the_timeline_need_not_keep_the_hall(self):
        self.assertIs(is_so(DUO, line_of("x x- y z y- z-"), ("not", "x", "y")), True)
        self.assertIs(is_so(Hall("people a b\nopen a b"), line_of("a b a- b-"), ("met", "a", "b")), True)

    def test_contrary(self):
        self.assertEqual(contrary(DUO, ("met", "x", "y")), ("not", "x", "y"))
        self.assertEqual(contrary(DUO, ("not", "z", "x")), ("met", "z", "x"))
        self.assertEqual(contrary(DUO, before("x z-")), before("z- x"))
        self.assertEqual(contrary(DUO, before("y- x-")), before("x- y-"))
        for saying in all_sayings(TRIO):
            back = contrary(DUO, saying)
            self.assertIs(type(back), tuple)
            self.assertNotEqual(back, saying)
            self.assertEqual(contrary(DUO, back), saying)

    def test_by_names(self):
        self.assertIs(is_so(saying=("met", "x", "y"), timeline=LINE, hall=DUO), True)
        self.assertIs(is_so(DUO, LINE, saying=("not", "x", "y")), False)
        self.assertEqual(contrary(saying=("met", "x", "y"), hall=DUO), ("not", "x", "y"))


class WrongTest(unittest.TestCase):
    def test_what_is_no_saying(self):
        for value in [*any_values(), *nearly_sayings()]:
            refuses(self, BadSaying, value, is_so, DUO, LINE, value)
            refuses(self, BadSaying, value, contrary, DUO, value)

    def test_a_saying_is_that_of_its_hall(self):
        for saying in (("met", "x", "z"), before("z y-"), ("not", "z", "x")):
            refuses(self, BadSaying, saying, contrary, Hall("people x y"), saying)
            refuses(self, BadSaying, saying, is_so, Hall("people x y"), line_of("x y x- y-"), saying)

    def test_one_person_has_no_sayings(self):
        for saying in (("met", "x", "x"), before("x x-"), ("not", "x", "y")):
            refuses(self, BadSaying, saying, contrary, Hall("people x"), saying)

    def test_what_is_no_timeline(self):
        for value in [*any_values(), LINE[:5], list(LINE), tuple(reversed(LINE)), (*LINE[:5], ["z", "out"])]:
            refuses(self, BadTimeline, value, is_so, DUO, value, ("met", "x", "y"))

    def test_the_timeline_is_asked_ahead_of_the_saying(self):
        wrong = list(LINE)
        for value in nearly_sayings():
            refuses(self, BadTimeline, wrong, is_so, DUO, wrong, value)
        refuses(self, BadTimeline, wrong, is_so, saying=None, timeline=wrong, hall=DUO)

    def test_nothing_is_changed(self):
        for value in nearly_sayings():
            kept = copy.deepcopy(value) if isinstance(value, (list, dict)) else value
            raised(self, BadSaying, contrary, DUO, value)
            raised(self, BadSaying, is_so, DUO, LINE, value)
            self.assertEqual(value, kept)
        for saying in all_sayings(TRIO):
            kept = copy.deepcopy(saying)
            for _ in range(2):
                self.assertEqual(is_so(DUO, LINE, saying), line_holds(LINE, kept))
                self.assertEqual(contrary(DUO, saying), contrary(DUO, kept))
            self.assertEqual(saying, kept)
        self.assertEqual(DUO, Hall("people x y z\nmet x y"))


if __name__ == "__main__":
    unittest.main()
