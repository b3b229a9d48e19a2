"""Point 13, with what point 2 says of it."""

import copy
import unittest

from metonce.errors import BadCases, NoTimeline
from metonce.halls import Hall
from metonce.looking import looks, shows_looks
from tests.answers import fewest_looks, looks_is_right
from tests.looks import Room, all_cases
from tests.samples import DUO, any_values, nested, refuses
from tests.test_cases import FOUR, HALL, NET, THREES, ring_hall

PATH = Hall("people d a b c e\nmet a b\nmet b c\nmet c d\nmet d e")
NINE = tuple("abcdefghi")
OPEN_RING = Hall("people a b c d\nmet a b\nmet b c\nmet c d\nopen d a\nopen a c")


class LookingTest(unittest.TestCase):
    def shows(self, hall, cases, *values):
        for value in values:
            self.assertIs(looks_is_right(hall, cases, value), True, value)
            self.assertIs(shows_looks(hall, cases, value), True, value)

    def denies(self, hall, cases, *values):
        for value in values:
            self.assertIs(shows_looks(hall, cases, value), False, value)

    def tells(self, hall, cases, count):
        """What looks tells is right by the look, of so many groups; gives it."""
        told = looks(hall, cases)
        self.assertEqual([len(part) for part in (told, *told)], [2, count, count], hall.text)
        self.shows(hall, cases, told)
        self.assertEqual(fewest_looks(Room(hall.text, cases)), count)
        return told


class DocumentTest(LookingTest):
    def test_the_examples_of_section_14(self):
        self.assertEqual(
            [len(looks(HALL, ("not",))[0]), shows_looks(HALL, ("met",),
                                                        ((("ann", "bob"), ("cyd", "dan")), ("ann", "cyd")))],
            [3, True])

    def test_by_names(self):
        told = looks(cases=("met",), hall=HALL)
        self.assertEqual(told, looks(HALL, ("met",)))
        self.assertIs(shows_looks(value=told, cases=("met",), hall=HALL), True)

    def test_functions_stand_in_their_file(self):
        for function in (looks, shows_looks):
            self.assertEqual(function.__module__, "metonce.looking")


class WrongTest(LookingTest):
    def test_bad_cases(self):
        for hall in (HALL, FOUR.hall, OPEN_RING):
            words = len(hall.opens)
            for value in [*any_values(), ("met",) * (words + 1), ["met"] * words, ("Met",) * words, ("open",) * words,
                          (True,) * words, "met", ("not", "not", "met")]:
                if value != () or words > 0:
                    refuses(self, BadCases, value, looks, hall, value)
                    refuses(self, BadCases, value, shows_looks, hall, value, None)

    def test_no_timeline_with_the_very_cases(self):
        for hall in (FOUR.hall, *[Hall(text) for text in THREES], ring_hall(9)):
            cases = ()
            refuses(self, NoTimeline, cases, looks, hall, cases)
            refuses(self, NoTimeline, cases, shows_looks, hall, cases, ((), ()))
        for cases in (("met", "not"), tuple(["met", "not"])):
            refuses(self, NoTimeline, cases, looks, OPEN_RING, cases)
            refuses(self, NoTimeline, cases, shows_looks, OPEN_RING, cases, 1)
        self.tells(OPEN_RING, ("met", "met"), 2)
        self.tells(OPEN_RING, ("not", "not"), 2)


class LooksTest(LookingTest):
    def test_one_person(self):
        self.assertEqual(looks(Hall("people a"), ()), ((("a",),), ("a",)))
        self.denies(Hall("people a"), (), ((), ()), ((("a",), ("a",)), ("a", "a")), ((("a", "a"),), ("a",)),
                    ((("a",),), ()), (((),), ("a",)), ((("a",), ()), ("a",)), ((("a",),), ("a", "a")))

    def test_nine_of_whom_nobody_met_anybody(self):
        hall = Hall("people " + " ".join(NINE))
        groups, apart = self.tells(hall, (), 9)
        self.assertEqual((sorted(groups), apart), ([(name,) for name in NINE], NINE))
        self.shows(hall, (), (tuple((name,) for name in reversed(NINE)), NINE))
        self.denies(hall, (), (tuple((name,) for name in NINE), NINE[::-1]))

    def test_nine_who_all_met(self):
        hall = Hall("people " + " ".join(NINE) + "\nmet " + " ".join(NINE))
        groups, apart = self.tells(hall, (), 1)
        self.assertEqual((groups, len(apart)), ((NINE,), 1))
        self.shows(hall, (), *[((NINE,), (name,)) for name in NINE])
        self.denies(hall, (), ((NINE[:8],), ("a",)), ((NINE[::-1],), ("a",)), ((NINE[:5], NINE[5:]), ("a",)),
                    ((NINE[:5], NINE[5:]), ("a", "i")), ((NINE,), ("j",)), ((NINE, NINE), ("a",)))

    def test_paths(self):
        self.tells(PATH, (), 3)
        for count, wanted in ((2, 1), (3, 2), (4, 2), (5, 3), (8, 4), (9, 5)):
            row = NINE[:count]
            met = [f"met {row[at - 1]} {row[at]}" for at in range(1, count)]
            self.tells(Hall("\n".join(["people " + " ".join(row), *met])), (), wanted)

    def test_cases(self):
        self.tells(HALL, ("met",), 2)
        self.tells(HALL, ("not",), 3)
        four = Hall("people a b c d e\nopen a b\nopen b c\nopen c d\nopen d e")
        for cases in all_cases(four):
            self.tells(four, cases, fewest_looks(Room(four.text, cases)))

    def test_which_are_shown(self):
        groups = (("d", "e"), ("a", "b"), ("c",))
        self.shows(PATH, (), (groups, ("a", "c", "e")), (groups[::-1], ("a", "c", "e")),
                   ((("a", "b"), ("b", "c"), ("d", "e")), ("a", "c", "e")),
                   ((("a", "b"), ("d", "c"), ("e",)), ("a", "c", "e")),
                   ((("d", "e"), ("b", "c"), ("a", "b")), ("a", "c", "e")))
        self.denies(PATH, (), (groups, ("d", "a")), ((("d", "e"), ("b", "a"), ("c",)), ("a", "c", "e")),
                    ((("a", "b"), ("c", "d"), ("e",)), ("a", "c", "e")),
                    ((("a", "b"), ("d", "c"), ("e",)), ("c", "a", "e")),
                    ((("a", "b"), ("d", "c")), ("a", "c")), ((("a", "b"), ("d", "c"), ("e",)), ("a", "c")),
                    ((("a", "b"), ("d", "c"), ("e",)), ("a", "b", "e")),
                    ((("a", "b"), ("d", "c"), ("e",)), ("d", "a", "e")),
                    ((("a", "b", "c"), ("d", "e"), ("d",)), ("a", "c", "e")),
                    ((("a", "b"), ("d", "c"), ("d",)), ("a", "c", "e")),
                    ((("d", "c"), ("a", "b"), ("e",)), ("a", "c", "c")))

    def test_nearly_right(self):
        right = ((("ann", "bob"), ("cyd", "dan")), ("ann", "cyd"))
        groups, apart = right
        self.shows(HALL, ("met",), right, ((("ann", "bob"), ("cyd", "dan")), ("ann", "dan")),
                   ((("cyd", "dan"), ("ann", "bob")), ("bob", "dan")))
        self.denies(HALL, ("met",), list(right), (list(groups), apart), (groups, list(apart)), right[:1], (*right, ()),
                    (([*groups[0]], groups[1]), apart), (apart, groups), (groups, "anncyd"), (groups, ("ann", "eve")),
                    ((*groups, ()), apart), ((*groups, ("ann",)), apart), (groups[:1], apart), (groups, apart[:1]),
                    ((groups[0], groups[0]), apart), (("annbob", "cyddan"), apart), (groups, ("ann", None)),
                    (groups, None),
                    ((("ann", "bob", "eve"), groups[1]), apart), ((("bob", "ann"), groups[1]), apart),
                    (groups, (apart,)),
                    ((("ann", "ann", "bob"), groups[1]), apart), (groups, ("bob", "cyd")), (None, apart),
                    (groups, groups))
        self.denies(HALL, ("not",), right)

    def test_any_value(self):
        for value in any_values():
            self.denies(DUO, (), value, (value, value), (value, ("x", "z")), ((("x", "y"), ("z",)), value),
                        ((value, ("z",)), ("x", "z")), ((("x", "y"), value), ("x", "z")),
                        ((("x", "y"), (value, "z")), ("x", "z")))
            if value != "x":
                self.denies(DUO, (), ((("x", "y"), ("z",)), (value, "z")))
        for kind in (tuple, list):
            self.denies(DUO, (), nested(kind, 30), (nested(kind, 29), ("x", "z")))

    def test_arguments_are_not_changed(self):
        value = [[["x", "y"], ["z"]], ["x", "z"]]
        kept = copy.deepcopy(value)
        self.denies(DUO, (), value, tuple(value), (tuple(value[0]), ("x", "z")))
        self.assertEqual(value, kept)
        cases = ["met"]
        refuses(self, BadCases, cases, looks, HALL, cases)
        self.assertEqual(cases, ["met"])

    def test_equal_calls_equal_results(self):
        for hall in (PATH, DUO, Hall("people " + " ".join(NINE))):
            for _ in range(2):
                self.assertEqual(looks(hall, ()), looks(Hall(hall.text), tuple([])))

    def test_the_rings_and_threes_of_fewer_people(self):
        for text in (NET, *THREES):
            hall = Hall(text)
            for name in ("x", "y", "z"):
                fewer = hall.without(name)
                self.tells(fewer, (), fewest_looks(Room(fewer.text, ())))


if __name__ == "__main__":
    unittest.main()
