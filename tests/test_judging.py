"""Point 10, with what point 2 says of it."""

import copy
import unittest

from metonce.books import Book
from metonce.errors import BadClaim, NoTimeline
from metonce.halls import Hall
from metonce.judging import judged, shows_judged
from tests.answers import judged_is_right
from tests.samples import DUO, LINE, all_sayings, any_values, before, line_of, nearly_sayings, nested, refuses
from tests.test_cases import FOUR, HALL, HEARD, NET, WRONG

APART = Hall("people a b c")
TWO = Hall("people a b")
TOGETHER = Hall("people a b c\nmet a b c")
EVENTS = [(name, way) for name in "xyz" for way in ("in", "out")]
CLAIMS = [*all_sayings(("x", "y", "z")),
          *[("there", event, name) for event in EVENTS for name in "xyz" if name != event[0]],
          *[("within", one, other) for one in "xyz" for other in "xyz" if one != other]]


def nearly_claims():
    """Values that are claims of DUO but for one thing."""
    there = ("there", ("x", "in"), "y")
    return [
        ("there", ("x", "in"), "x"), ("there", ("x", "out"), "x"), ("there", "y", ("x", "in")), ("there", "x", "y"),
        ("there", ("x", "in"), ("y", "in")), ("there", ("w", "in"), "y"), ("there", ("x", "in"), "w"), list(there),
        ("there", ["x", "in"], "y"), ("there", ("x", "In"), "y"), ("there", ("x", True), "y"), ("there", ("x",), "y"),
        ("there", ("x", "in"), ["y"]), ("there", ("x", "in"), None), ("there", ("x", "in")), (*there, "z"),
        (there,), ("There", ("x", "in"), "y"), (True, ("x", "in"), "y"), ("there", None, "y"), ("there", (), "y"),
        ("there", ("x", "in", "out"), "y"), ("there", nested(tuple, 29), "y"), ("there", ("x", "in"), DUO),
        ("within", "x", "x"), ("within", "x", "w"), ("within", "w", "x"), ("within", ("x", "in"), "y"),
        ("within", "x", ("y", "in")), ("within", ("x", "in"), ("y", "in")), ("within", "x"), ("within", "x", "y", "z"),
        ["within", "x", "y"], ("Within", "x", "y"), ("within", ["x"], "y"), ("within", "x", None), (None, "x", "y"),
        ("within", "x", 1), ("within", Book(DUO), "y"), ("within", nested(list, 29), "y"), "within x y",
        ("in", "x", "y"), ("always", "x", "y"),
    ]


class JudgingTest(unittest.TestCase):
    def shows(self, book, claim, *values):
        for value in values:
            self.assertIs(judged_is_right(book, claim, value), True, value)
            self.assertIs(shows_judged(book, claim, value), True, value)

    def denies(self, book, claim, *values):
        for value in values:
            self.assertIs(shows_judged(book, claim, value), False, value)

    def tells(self, book, claim, word):
        """What judged tells begins with this word, and is right by the look; gives what stands behind it."""
        told = judged(book, claim)
        self.assertEqual((told[0], type(told), len(told)), (word, tuple, 3 if word == "open" else 2), claim)
        self.shows(book, claim, told)
        return told[1:]


class DocumentTest(JudgingTest):
    def test_the_example(self):
        self.assertEqual(
            [judged(HEARD, ("before", ("bob", "in"), ("cyd", "in")))[0],
             judged(HEARD, ("there", ("bob", "in"), "ann"))[0],
             judged(HEARD, ("within", "ann", "bob"))[0], judged(HEARD, ("within", "cyd", "ann"))[0]],
            ["always", "open", "open", "never"])
        self.shows(HEARD, ("before", ("bob", "in"), ("cyd", "in")),
                   ("always", (("rows", (("ann", "cyd", ("said", 0)), ("cyd", "ann", ("said", 1)))),)))

    def test_by_names(self):
        claim = ("within", "ann", "bob")
        self.assertEqual(judged(claim=claim, book=HEARD), judged(HEARD, claim))
        self.assertIs(shows_judged(value=judged(HEARD, claim), claim=claim, book=HEARD), True)
        self.assertIs(shows_judged(HEARD, claim, value=None), False)

    def test_functions_stand_in_their_file(self):
        for function in (judged, shows_judged):
            self.assertEqual(function.__module__, "metonce.judging")


class WhatClaimsAreTest(JudgingTest):
    def refused(self, book, value):
        refuses(self, BadClaim, value, judged, book, value)
        refuses(self, BadClaim, value, shows_judged, book, value, None)

    def test_all_claims_are_taken(self):
        for claim in CLAIMS:
            self.shows(Book(DUO), claim, judged(Book(DUO), claim))

    def test_what_are_none(self):
        for value in [*any_values(), *nearly_sayings(), *nearly_claims()]:
            if value not in CLAIMS:
                self.refused(Book(DUO), value)

    def test_of_one_person_nothing_can_be_claimed(self):
        for claim in [("met", "x", "x"), ("within", "x", "x"), ("there", ("x", "in"), "x"), before("x x-"), *CLAIMS]:
            self.refused(Book(Hall("people x")), claim)

    def test_claims_of_another_hall(self):
        for claim in CLAIMS:
            if "z" in claim or ("z", "in") in claim or ("z", "out") in claim:
                self.refused(Book(Hall("people x y")), claim)

    def test_ahead_of_no_timeline(self):
        for value in [*any_values(), ("met", "a", "a"), ("within", "a", "x"), ("there", ("a", "in"), "a")]:
            self.refused(FOUR, value)
            self.refused(WRONG, value)

    def test_no_timeline_with_the_very_book(self):
        for book in (FOUR, Book(Hall(NET)), Book(TOGETHER, (before("a b"), before("b a"))),
                     Book(TWO, (("met", "a", "b"),))):
            for claim in (("met", "a", "b"), ("not", "b", "a"), before("a- b"), ("there", ("a", "in"), "b"),
                          ("within", "b", "a")):
                refuses(self, NoTimeline, book, judged, book, claim)
                refuses(self, NoTimeline, book, shows_judged, book, claim, ("always", ()))
        refuses(self, NoTimeline, WRONG, judged, WRONG, ("met", "ann", "bob"))


class EachFormTest(JudgingTest):
    def test_met_and_not(self):
        for saying, word in ((("met", "x", "y"), "always"), (("not", "x", "y"), "never"), (("met", "z", "y"), "never"),
                             (("not", "y", "z"), "always")):
            self.tells(Book(DUO), saying, word)
        unknown = Book(Hall("people x y\nopen x y"))
        for saying in (("met", "x", "y"), ("not", "y", "x")):
            self.tells(unknown, saying, "open")
            self.tells(unknown + saying, saying, "always")
            self.tells(unknown + before("x- y"), saying, "never" if saying[0] == "met" else "always")

    def test_before(self):
        for words, word in (("x y-", "always"), ("y- x", "never"), ("x y", "open"), ("z- x-", "open"), ("z x", "open")):
            self.tells(Book(DUO), before(words), word)
        for words in ("z- x", "z- y", "z x", "z- x-", "z y-"):
            self.tells(Book(DUO, (before("z- x"),)), before(words), "always")
            self.tells(Book(DUO, (before("x- z"),)), before(words), "never")

    def test_there(self):
        met = Book(Hall("people a b\nmet a b"))
        for claim in (("there", ("a", "in"), "b"), ("there", ("b", "out"), "a")):
            self.tells(met, claim, "open")
            self.tells(met + ("before", (claim[2], "in"), claim[1]) + ("before", claim[1], (claim[2], "out")), claim,
                       "always")
            self.tells(Book(TWO), claim, "never")
        self.tells(met + before("a b"), ("there", ("a", "in"), "b"), "never")
        self.tells(met + before("a b"), ("there", ("b", "in"), "a"), "always")
        self.tells(met + before("a- b-"), ("there", ("b", "out"), "a"), "never")

    def test_within(self):
        met = Book(Hall("people a b\nmet a b"))
        self.tells(met, ("within", "a", "b"), "open")
        self.tells(met + before("b a"), ("within", "a", "b"), "open")
        self.tells(met + before("b a") + before("a- b-"), ("within", "a", "b"), "always")
        self.tells(met + before("b a") + before("a- b-"), ("within", "b", "a"), "never")
        self.tells(met + before("a b"), ("within", "a", "b"), "never")
        self.tells(met + before("b- a-"), ("within", "a", "b"), "never")
        self.tells(Book(TWO), ("within", "a", "b"), "never")

    def test_it_depends_on_a_line_open(self):
        for claim, word in ((before("ann- dan"), "open"), (before("ann- cyd"), "always"),
                            (("met", "cyd", "dan"), "open"),
                            (before("cyd- ann"), "never"), (("within", "bob", "dan"), "never")):
            self.tells(HEARD, claim, word)
        self.tells(HEARD + ("met", "cyd", "dan"), before("ann- dan"), "always")


class WhatIsShownTest(JudgingTest):
    def test_a_tree_for_each_saying_of_the_third_column(self):
        met = Book(Hall("people a b\nmet a b"), (before("b a"),))
        claim = ("there", ("a", "in"), "b")
        first = ("round", (0, 1))
        second = ("rows", (("b", "a", ("said", 1)),))
        self.shows(met, claim, ("always", (first, second)), ("always", (("round", (1, 0)), second)))
        self.denies(met, claim, ("always", (second, first)), ("always", (first,)), ("always", (first, second, second)),
                    ("always", (first, first)), ("always", (second, second)), ("always", ()), ("always", first),
                    ("always", [first, second]), ["always", (first, second)], ("always", first, second),
                    ("never", (first, second)), ("open", (first, second)), ("Always", (first, second)),
                    ("always", (list(first), second)), ("always", (first, second), ()), (True, (first, second)),
                    ("always", ((first, second),)), ("always", (("none", first), ("none", second))))

    def test_within_has_two_as_well(self):
        met = Book(Hall("people a b\nmet a b"), (before("b a"), before("a- b-")))
        trees = (("round", (0, 2)), ("round", (1, 2)))
        self.shows(met, ("within", "a", "b"), ("always", trees))
        self.denies(met, ("within", "a", "b"), ("always", trees[::-1]), ("always", trees[:1]))

    def test_one_tree_for_all_sayings_of_the_second_column(self):
        rows = ("rows", (("b", "a", ("said", 0)), ("a", "b", ("said", 1))))
        other = ("rows", (("a", "b", ("said", 1)), ("b", "a", ("said", 0))))
        self.shows(Book(TWO), ("within", "a", "b"), ("never", (rows,)), ("never", (other,)))
        self.denies(Book(TWO), ("within", "a", "b"), ("never", (rows, other)), ("never", ()), ("never", rows),
                    ("never", [rows]), ("always", (rows,)), ("never", (rows, rows)), ("open", (rows,)),
                    ("never", rows, ()),
                    ["never", (rows,)], ("never", (None,)), ("never", (("rows", rows[1][:1]),)),
                    ("never", (("rows", (("b", "a", ("said", 1)), ("a", "b", ("said", 0)))),)))
        self.denies(Book(TWO), ("within", "b", "a"), ("never", (rows,)))
        self.shows(Book(TWO), ("there", ("a", "out"), "b"), ("never", (rows,)), ("never", (other,)))
        self.denies(Book(TWO), ("there", ("a", "in"), "b"), ("never", (("rows", rows[1][1:]),)))

    def test_a_saying_has_one_tree_either_way(self):
        self.shows(Book(TWO), before("a b-"), ("open", line_of("a a- b b-"), line_of("b b- a a-")))
        known = Book(TWO, (before("a b"),))
        tree = ("rows", (("a", "b", ("said", 0)), ("b", "a", ("said", 1))))
        self.shows(known, before("a- b-"), ("always", (tree,)))
        self.shows(known, before("b a-"), ("never", (tree,)))
        self.denies(known, before("a- b-"), ("never", (tree,)), ("always", (tree, tree)), ("always", tree))
        self.denies(known, before("b a-"), ("always", (tree,)), ("never", (("rows", tree[1][:1]),)))

    def test_trees_that_ask(self):
        unknown = Book(Hall("people a b c d\nmet a b\nmet b c\nmet c d\nopen a d"))
        ring = ("ring", ("a", "b", "c", "d"))
        self.tells(unknown, ("met", "a", "d"), "never")
        self.shows(unknown, ("not", "a", "d"), ("always", (("ask", 0, ring, ("said", 0)),)))
        self.denies(unknown, ("not", "a", "d"), ("always", (ring,)), ("always", (("ask", 0, ("said", 0), ring),)),
                    ("always", (("ask", 0, ring, ("said", 1)),)), ("always", (("ask", 1, ring, ("said", 0)),)),
                    ("always", (("ask", False, ring, ("said", 0)),)))

    def test_timelines_both_ways(self):
        met = Book(Hall("people a b\nmet a b"))
        so, not_so = line_of("b a a- b-"), line_of("a b a- b-")
        self.shows(met, ("within", "a", "b"), ("open", so, not_so), ("open", so, line_of("b a b- a-")),
                   ("open", so, line_of("a b b- a-")))
        self.denies(met, ("within", "a", "b"), ("open", not_so, so), ("open", so, so), ("open", not_so, not_so),
                    ("open", so), ("open", so, not_so, so), ["open", so, not_so], ("open", (so, not_so)),
                    ("open", list(so), not_so), ("open", so, list(not_so)), ("Open", so, not_so), ("never", so, not_so),
                    ("always", so, not_so), ("open", so, line_of("a a- b b-")), ("open", so, not_so[:3]),
                    ("open", ("timeline", so), ("timeline", not_so)), ("open", so, ()), (so, not_so),
                    ("open", so, None))
        self.denies(met + before("a b"), ("within", "b", "a"), ("open", line_of("a b b- a-"), line_of("b a a- b-")))

    def test_thirty_sayings_and_a_claim(self):
        full = Book(TWO, (before("a b"),) * 30)
        trees = [("rows", (("a", "b", ("said", 7)), ("b", "a", ("said", number)))) for number in (29, 30, 31)]
        self.tells(full, before("a- b-"), "always")
        self.tells(full, before("b- a-"), "never")
        self.shows(full, before("a- b"), ("always", (trees[1],)))
        self.shows(full, before("b a-"), ("never", (trees[1],)))
        for tree in (trees[0], trees[2]):
            self.denies(full, before("a- b"), ("always", (tree,)))
            self.denies(full, before("b a-"), ("never", (tree,)))
        self.tells(full, ("within", "b", "a"), "never")
        self.shows(full, ("within", "b", "a"), ("never", (trees[2],)))
        self.denies(full, ("within", "b", "a"), ("never", (trees[1],)))
        self.tells(full, ("there", ("b", "in"), "a"), "never")
        self.assertEqual(len(full), 30)

    def test_thirty_sayings_and_all_is_always_so(self):
        full = Book(Hall("people a b\nmet a b"), (before("b a"), before("a- b-")) * 15)
        self.tells(full, ("within", "a", "b"), "always")
        self.shows(full, ("within", "a", "b"), ("always", (("round", (28, 30)), ("round", (30, 29)))))
        self.denies(full, ("within", "a", "b"), ("always", (("round", (28, 30)), ("round", (31, 29)))))
        self.tells(full, ("there", ("a", "out"), "b"), "always")


class AnyValueTest(JudgingTest):
    def test_all_of_them_are_denied(self):
        for book, claim in ((Book(DUO), ("met", "x", "y")), (Book(DUO), ("within", "x", "y")),
                            (Book(DUO), ("there", ("x", "in"), "z")), (Book(DUO, (before("x z"),)), before("z x"))):
            for value in any_values():
                self.denies(book, claim, value, (value, value), (value, value, value))
                for word in ("always", "never", "open"):
                    self.denies(book, claim, (word, value), (word, (value,)), (word, (value, value)), [word, (value,)],
                                (word, value, value), (word, LINE, value), (word, value, LINE), (word,))

    def test_deep_ones(self):
        deep = ("said", 0)
        for _ in range(40):
            deep = ("ask", 0, deep, deep)
        self.denies(HEARD, before("bob cyd"), ("always", (deep,)), ("never", (deep,)), ("open", deep, deep), deep)

    def test_arguments_are_not_changed(self):
        claim = ["within", "x", ["y"]]
        kept = copy.deepcopy(claim)
        refuses(self, BadClaim, claim, judged, Book(DUO), claim)
        self.assertEqual(claim, kept)
        value = ["always", [["said", 0]]]
        kept = copy.deepcopy(value)
        self.denies(Book(DUO), ("met", "x", "y"), value, tuple(value))
        self.assertEqual(value, kept)

    def test_equal_calls_equal_results(self):
        for book in (Book(DUO), HEARD, Book(HALL)):
            twin = Book(Hall(book.hall.text), tuple(list(book.sayings)))
            names = book.hall.people
            for claim in (("within", names[0], names[1]), ("met", names[1], names[2])):
                for _ in range(2):
                    self.assertEqual(judged(book, claim), judged(twin, claim))
            self.assertEqual(book, twin)


if __name__ == "__main__":
    unittest.main()
