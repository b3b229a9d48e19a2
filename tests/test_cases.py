"""Point 8, with what point 2 says of it."""

import copy
import unittest
from itertools import permutations

from metonce.books import Book
from metonce.cases import barred, shows_barred, sure
from metonce.errors import BadCases, NoTimeline
from metonce.halls import Hall
from tests.looks import Room, barred_is_right, line_is_right
from tests.samples import DUO, LINE, all_timelines, any_values, before, line_of, nested, raised, refuses

HALL = Hall("people ann bob cyd dan\nmet ann bob\nmet bob cyd\nopen cyd dan")
HEARD = Book(HALL, (("before", ("ann", "in"), ("cyd", "in")),))
WRONG = HEARD + ("before", ("cyd", "out"), ("dan", "out")) + ("before", ("dan", "out"), ("ann", "in"))
FOUR = Book(Hall("people a b c d\nmet a b\nmet b c\nmet c d\nmet d a"))
# p met just a, q just b, r both, s neither; a and b did not meet in the first one, and did in the second one.
APART = "people a b p q r s\nmet a p\nmet b q\nmet a r\nmet b r"
TOGETHER = "people a b p q r s\nmet a p\nmet b q\nmet a r b"
NET = "people a b c x y z\nmet a b c\nmet a x\nmet b y\nmet c z"
NET_WAYS = (("x", "a", "b", "y"), ("y", "b", "c", "z"), ("z", "c", "a", "x"))
THREES = (
    NET,
    "people m a b c x y z\nmet m a\nmet m b\nmet m c\nmet a x\nmet b y\nmet c z",
    "people a b c x y z\nmet a b c\nmet x a b\nmet y b c\nmet z c a",
    "people x y z m a b c\nmet m a b c\nmet x a\nmet a b c\nmet b y\nmet c z\nmet m z",
)


def ring_hall(many):
    names = "abcdefghi"[:many]
    return Hall("\n".join(["people " + " ".join(names)] + [f"met {names[at - 1]} {names[at]}" for at in range(many)]))


class CasesTest(unittest.TestCase):
    def shows(self, book, cases, *values):
        for value in values:
            self.assertIs(shows_barred(book, cases, value), True, value)

    def denies(self, book, cases, *values):
        for value in values:
            self.assertIs(shows_barred(book, cases, value), False, value)

    def tells(self, book, cases, word):
        """What barred tells begins with this word, and is right by the look; gives it."""
        told = barred(book, cases)
        self.assertEqual(told[0], word)
        self.assertTrue(barred_is_right(book, cases, told), told)
        self.shows(book, cases, told)
        if word != "timeline":
            refuses(self, NoTimeline, cases, sure, book, cases)
        return told


class DocumentTest(CasesTest):
    def test_the_examples(self):
        self.assertEqual(
            [sure(HEARD, ("not",)), sure(HEARD, ("met",)),
             sure(HEARD + ("before", ("dan", "in"), ("ann", "in")), ("not",))],
            [(("ann", "cyd"),), (("ann", "cyd"), ("ann", "dan"), ("bob", "dan")),
             (("ann", "cyd"), ("dan", "ann"), ("dan", "bob"), ("dan", "cyd"))])
        rows = (("ann", "cyd", ("said", 0)), ("ann", "dan", ("met", 0, "dan")), ("dan", "ann", ("said", 2)))
        self.assertEqual([barred(WRONG, ("met",))[0], shows_barred(WRONG, ("met",), ("rows", rows))], ["rows", True])

    def test_by_names(self):
        self.assertEqual(barred(cases=("met",), book=WRONG), barred(WRONG, ("met",)))
        self.assertEqual(sure(cases=("not",), book=HEARD), (("ann", "cyd"),))
        self.assertIs(shows_barred(value=("said", 0), cases=("met",), book=WRONG), False)
        self.assertIs(shows_barred(WRONG, ("met",), value=barred(WRONG, cases=("met",))), True)

    def test_functions_stand_in_their_file(self):
        for function in (barred, shows_barred, sure):
            self.assertEqual(function.__module__, "metonce.cases")


class WhatCasesAreTest(CasesTest):
    def refused(self, book, value):
        refuses(self, BadCases, value, barred, book, value)
        refuses(self, BadCases, value, sure, book, value)
        for shown in (None, ("said", 0), ("timeline", LINE), barred):
            refuses(self, BadCases, value, shows_barred, book, value, shown)

    def test_what_are_no_cases(self):
        two = Book(Hall("people a b c\nopen a b\nopen c b"))
        for value in [*any_values(), ("met",), ("met",) * 3, ["met", "not"], "met", {"met": "not"}, ("met", "open"),
                      ("met", True), ("met", None), ("Met", "not"), ("met", ("not",)), (["met"], "not"), (True, False),
                      (("met", "not"),), ("met", Book(DUO)), ("met", "not", "not"), ("a", "b"), (1, 0)]:
            self.refused(two, value)
        for value in any_values():
            if value != ():
                self.refused(Book(DUO), value)

    def test_no_lines_open(self):
        self.assertEqual(barred(Book(DUO), ())[0], "timeline")
        for value in ([], ("met",), ("not",), None, "", {}):
            self.refused(Book(DUO), value)

    def test_cases_stand_as_the_lines_open(self):
        book = Book(Hall("people a b c d\nopen c d\nopen a b"))
        for cases, met in ((("met", "not"), {"cd"}), (("not", "met"), {"ab"}), (("met", "met"), {"ab", "cd"}),
                           (("not", "not"), set())):
            line = barred(book, cases)[1]
            gone = {(one[0], other[0]) for place, one in enumerate(line) for other in line[place:]
                    if (one[1], other[1]) == ("out", "in")}
            self.assertEqual({pair for pair in ("ab", "cd", "ac", "bd", "ad", "bc")
                              if tuple(pair) not in gone and tuple(pair[::-1]) not in gone}, met)

    def test_four_lines_open(self):
        book = Book(Hall("people a b c\nopen a b\nopen a c\nopen b c"))
        self.assertEqual(len(barred(book, ("met", "met", "not"))[1]), 6)
        four = Book(Hall("people a b c d\nopen a b\nopen b c\nopen c d\nopen d a"))
        self.tells(four, ("met",) * 4, "ring")
        self.tells(four, ("met", "met", "met", "not"), "timeline")
        self.refused(four, ("met",) * 3)
        self.refused(four, ("met",) * 5)


class TimelineTest(CasesTest):
    def test_all_timelines_of_three(self):
        for text in ("people x y z\nmet x y\nopen z y", "people x y z\nopen x y\nopen y z", "people z y x\nmet x y z"):
            hall = Hall(text)
            for sayings in ((), (before("x z"),), (before("y- z-"), ("met", "x", "y"))):
                book = Book(hall, sayings)
                for cases in ((), ("met",), ("not",), ("met", "not"), ("not", "met"), ("met", "met"), ("not", "not")):
                    if len(cases) != len(hall.opens):
                        continue
                    room = Room(text, cases)
                    right = [line for line in all_timelines(("x", "y", "z")) if line_is_right(room, sayings, line)]
                    told = barred(book, cases)
                    self.assertEqual(told[0] == "timeline", right != [])
                    for line in all_timelines(("x", "y", "z")):
                        self.assertIs(shows_barred(book, cases, ("timeline", line)), line in right)

    def test_one_person(self):
        book = Book(Hall("people a"))
        self.assertEqual(barred(book, ()), ("timeline", line_of("a a-")))
        self.assertEqual(sure(book, ()), ())
        self.shows(book, (), ("timeline", line_of("a a-")))
        self.denies(book, (), ("timeline", line_of("a- a")), ("timeline", ()), ("ring", ("a",)), ("rows", ()))

    def test_nine_people(self):
        names = "abcdefghi"
        apart = Book(Hall("people " + " ".join(names)))
        for book in (apart, Book(Hall("people " + " ".join(names) + "\nmet " + " ".join(names)))):
            told = self.tells(book, (), "timeline")
            self.assertEqual(len(told[1]), 18)
            self.assertEqual(sure(book, ()), ())
        row = Book(apart.hall, tuple(before(f"{one} {other}-") for one, other in zip(names, names[1:])))
        self.assertEqual(sure(row, ()), tuple((one, other) for one in names for other in names if one < other))

    def test_nearly_right(self):
        book = Book(DUO, (before("x z"),))
        self.shows(book, (), ("timeline", LINE))
        self.denies(book, (), ("timeline", list(LINE)), ["timeline", LINE], ("timeline", LINE, LINE), ("timeline",),
                    LINE, ("line", LINE), (("timeline",), LINE), ("timeline", LINE[:5]),
                    ("timeline", (*LINE[:5], ["z", "out"])),
                    ("timeline", tuple(reversed(LINE))), ("timeline", line_of("z z- x y x- y-")),
                    ("timeline", line_of("x x- y y- z z-")), ("timeline", ("timeline", LINE)), ("Timeline", LINE))

    def test_no_timeline_of_another_case(self):
        book = Book(Hall("people a b\nopen a b"))
        apart, together = ("timeline", line_of("a a- b b-")), ("timeline", line_of("a b b- a-"))
        self.shows(book, ("not",), apart)
        self.denies(book, ("met",), apart)
        self.shows(book, ("met",), together)
        self.denies(book, ("not",), together)


class RingTest(CasesTest):
    def test_rings_of_four_to_nine(self):
        for many in range(4, 10):
            book = Book(ring_hall(many))
            self.assertIn(barred(book, ())[0], ("ring", "three"))
            self.assertTrue(barred_is_right(book, (), barred(book, ())))
            names = book.hall.people
            for at in range(many):
                turned = names[at:] + names[:at]
                self.shows(book, (), ("ring", turned), ("ring", turned[::-1]))
                self.denies(book, (), ("ring", turned[1:]), ("ring", turned[:1] + turned), ("ring", list(turned)),
                            ("ring", (turned[1], turned[0], *turned[2:])), ("ring", turned, turned), ("ring", *turned),
                            ["ring", turned], ("Ring", turned), ("ring", (*turned[1:], "w")), ("ring", (turned,)))

    def test_a_ring_of_four(self):
        self.assertEqual(sorted(self.tells(FOUR, (), "ring")[1]), ["a", "b", "c", "d"])
        for people in permutations("abcd"):
            across = {frozenset(people[::2]), frozenset(people[1::2])}
            self.assertIs(shows_barred(FOUR, (), ("ring", people)), across == {frozenset("ac"), frozenset("bd")})
        self.denies(FOUR, (), ("ring", ("a", "b", "c")), ("ring", ()), ("ring", ("a",)), ("ring", "abcd"),
                    ("ring", ("a", "b", "c", "d", "a")), ("ring", ("a", "b", "c", ["d"])), ("ring", None),
                    ("ring", ("a", "b", "c", 1)), ("ring", ("a", "b", "c", True)), ("ring", ("a", "b", "a", "b")))

    def test_three_who_all_met_are_no_ring(self):
        book = Book(Hall("people a b c d\nmet a b c"))
        self.tells(book, (), "timeline")
        self.denies(book, (), ("ring", ("a", "b", "c")), ("ring", ("a", "b", "c", "d")))

    def test_a_short_cut(self):
        book = Book(Hall("people a b c d\nmet a b\nmet b c\nmet c d\nmet d a\nmet a c"))
        self.tells(book, (), "timeline")
        self.denies(book, (), ("ring", ("a", "b", "c", "d")))
        six = Book(Hall("people a b c d e f\nmet a b\nmet b c\nmet c d\nmet d e\nmet e f\nmet f a\nmet a d"))
        self.denies(six, (), ("ring", tuple("abcdef")))
        self.shows(six, (), ("ring", tuple("abcd")), ("ring", tuple("defa")))

    def test_lines_open_close_a_ring(self):
        book = Book(Hall("people a b c d\nmet a b\nmet b c\nmet c d\nopen d a\nopen a c"))
        ring = ("ring", ("a", "b", "c", "d"))
        for cases in (("met", "met"), ("met", "not"), ("not", "met"), ("not", "not")):
            self.assertIs(shows_barred(book, cases, ring), cases == ("met", "not"))
            self.tells(book, cases, "ring" if cases == ("met", "not") else "timeline")


class ThreeTest(CasesTest):
    def test_halls_with_three(self):
        for text in THREES:
            book = Book(Hall(text))
            self.tells(book, (), "three")
            for name in book.hall.people:
                if name in "xyz":
                    self.tells(Book(book.hall.without(name)), (), "timeline")

    def test_all_sequences_of_the_people(self):
        book = Book(Hall(NET))
        ends = {("x", "y"): ("x", "a", "b", "y"), ("y", "z"): ("y", "b", "c", "z"), ("z", "x"): ("z", "c", "a", "x")}
        ends.update({(way[-1], way[0]): way[::-1] for way in list(ends.values())})
        for x, y, z in permutations("xyz"):
            self.shows(book, (), ("three", (x, y, z), (ends[x, y], ends[y, z], ends[z, x])))
            self.denies(book, (), ("three", (x, y, z), (ends[y, z], ends[z, x], ends[x, y])),
                        ("three", (x, y, z), (ends[y, x], ends[z, y], ends[x, z])),
                        ("three", (x, z, y), (ends[x, y], ends[y, z], ends[z, x])))

    def test_ways_that_are_not_the_shortest(self):
        book = Book(Hall("people a b c d x y z\nmet a b c d\nmet a x\nmet b y\nmet c z"))
        for first in (("x", "a", "b", "y"), ("x", "a", "d", "b", "y")):
            self.shows(book, (), ("three", ("x", "y", "z"), (first, *NET_WAYS[1:])))
        self.denies(book, (), ("three", ("x", "y", "z"), (("x", "a", "d", "a", "b", "y"), *NET_WAYS[1:])))

    def test_nearly_right(self):
        book = Book(Hall(NET))
        people = ("x", "y", "z")
        self.shows(book, (), ("three", people, NET_WAYS))
        for way in ((), ("x",), ("y",), ("x", "y"), ("x", "b", "y"), ("x", "a", "y"), ("x", "a", "c", "b", "y"),
                    ("x", "a", "b"), ("a", "b", "y"), ("x", "x", "a", "b", "y"), ["x", "a", "b", "y"], "xaby", None,
                    ("y", "b", "a", "x"), ("x", "a", "b", 1), ("x", "a", ["b"], "y"), ("x", "a", "b", "y", "w"), True,
                    ("x", "a", "b", "y", "b", "y"), ("x", "a", "z", "b", "y"), (("x", "a", "b", "y"),)):
            self.denies(book, (), ("three", people, (way, *NET_WAYS[1:])))
        for given in (list(people), people[:2], (*people, "a"), ("x", "y", "x"), ("x", "y", "w"), ("x", "y", 1), None,
                      ("x", "y", ["z"]), ("a", "y", "z"), "xyz", (people,), (), ("a", "b", "c")):
            self.denies(book, (), ("three", given, NET_WAYS))
        for given in (list(NET_WAYS), NET_WAYS[:2], (*NET_WAYS, NET_WAYS[0]), (), None, (NET_WAYS,), "way", {}, 3):
            self.denies(book, (), ("three", people, given))
        self.denies(book, (), ("three", people), ("three", people, NET_WAYS, ()), ["three", people, NET_WAYS],
                    ("three", (people, NET_WAYS)), ("ring", people, NET_WAYS), ("Three", people, NET_WAYS))

    def test_a_way_past_nobody_who_met_the_third(self):
        hall = Hall("people a b c d x y z\nmet a b c\nmet a x\nmet b y\nmet c z\nmet d x\nmet d y\nmet d z")
        ways = (("x", "d", "y"), *NET_WAYS[1:])
        self.denies(Book(hall), (), ("three", ("x", "y", "z"), ways))
        self.shows(Book(hall), (), ("three", ("x", "y", "z"), NET_WAYS))

    def test_a_way_past_the_third_does_not_lead_through_them(self):
        hall = Hall("people a b c x y z\nmet a b c\nmet a x\nmet b y\nmet c z\nopen a z\nopen b z")
        ways = (("x", "a", "z", "b", "y"), *NET_WAYS[1:])
        for cases in (("met", "met"), ("met", "not"), ("not", "not")):
            self.denies(Book(hall), cases, ("three", ("x", "y", "z"), ways))
        self.shows(Book(hall), ("not", "not"), ("three", ("x", "y", "z"), NET_WAYS))

    def test_two_of_the_three_who_met(self):
        hall = Hall("people a b c x y z\nmet a b c\nmet a x\nmet b y\nmet c z\nopen x y")
        value = ("three", ("x", "y", "z"), NET_WAYS)
        self.shows(Book(hall), ("not",), value)
        self.denies(Book(hall), ("met",), value)
        self.tells(Book(hall), ("met",), "ring")
        self.denies(Book(hall), ("met",), ("three", ("x", "y", "z"), (("x", "y"), *NET_WAYS[1:])))

    def test_a_ring_of_six_has_both(self):
        ways = (tuple("abc"), tuple("cde"), tuple("efa"))
        self.shows(Book(ring_hall(6)), (), ("ring", tuple("abcdef")), ("three", ("a", "c", "e"), ways))


class SaidTest(CasesTest):
    def test_met_and_not(self):
        hall = Hall("people a b c\nmet a b\nopen b c")
        sayings = (("met", "a", "b"), ("not", "a", "b"), ("met", "c", "a"), ("not", "a", "c"), ("met", "b", "c"),
                   ("not", "c", "b"), before("a c"))
        book = Book(hall, sayings)
        for cases, wrong in ((("met",), (1, 2, 5)), (("not",), (1, 2, 4))):
            for number in range(len(sayings)):
                self.assertIs(shows_barred(book, cases, ("said", number)), number in wrong)
            self.tells(book, cases, "said")
        fine = Book(hall, (("met", "b", "a"), ("not", "c", "a"), ("not", "b", "c")))
        self.tells(fine, ("not",), "timeline")
        self.tells(fine, ("met",), "said")
        self.shows(fine, ("met",), ("said", 2))

    def test_numbers(self):
        book = Book(DUO, (("not", "x", "y"), ("met", "x", "z")))
        self.shows(book, (), ("said", 0), ("said", 1))
        for value in [*any_values(), 2, -1, -2, 30, "0", (0,), [0], ("said", 0), ("not", "x", "y")]:
            if type(value) is not int or value not in (0, 1):
                self.denies(book, (), ("said", value))
        self.denies(book, (), ("said",), ("said", 0, 0), ("said", 0, 1), ["said", 0], ("Said", 0), "said",
                    ("said", False), ("said", True))


class TableTest(CasesTest):
    """The table of section 8, line by line: which rows a saying gives."""

    def given(self, text, words):
        """All pairs that are right as the only row of this saying, beside one that tells the contrary."""
        hall = Hall(text)
        found = set()
        for x in hall.people:
            for y in hall.people:
                if x == y:
                    continue
                # The contrary pair is told by (y "out", x "in"), so that this row ends a bar just if it is right.
                book = Book(hall, (before(words), before(f"{y}- {x}")))
                bar = ("rows", ((y, x, ("said", 1)), (x, y, ("said", 0))))
                self.assertIs(shows_barred(book, (), bar), barred_is_right(book, (), bar))
                if shows_barred(book, (), bar):
                    found.add((x, y))
        return found

    def test_who_did_not_meet(self):
        for words in ("a b", "a- b-", "a b-", "a- b"):
            self.assertEqual(self.given(APART, words), {("a", "b")}, words)

    def test_who_met(self):
        for words, pairs in (("a b", {("a", "q")}), ("a- b-", {("p", "b")}), ("a b-", set()), ("a- b", {("a", "b")}),
                             ("b a", {("b", "p")}), ("b- a-", {("q", "a")}), ("b a-", set()), ("b- a", {("b", "a")})):
            self.assertEqual(self.given(TOGETHER, words), pairs, words)

    def test_all_who_met_the_one_but_not_the_other(self):
        hall = "people a b c d e f\nmet a b\nmet b c\nmet b d e\nmet a e f"
        self.assertEqual(self.given(hall, "a b"), {("a", "c"), ("a", "d")})
        self.assertEqual(self.given(hall, "b- a-"), {("c", "a"), ("d", "a")})
        self.assertEqual(self.given(hall, "a- b-"), {("f", "b")})

    def test_in_each_case(self):
        hall = Hall("people a b z\nmet b z\nopen a b")
        book = Book(hall, (before("a b"), before("z- a"), before("b- a")))
        to_z = ("rows", (("z", "a", ("said", 1)), ("a", "z", ("said", 0))))
        to_b = ("rows", (("b", "a", ("said", 2)), ("a", "b", ("said", 0))))
        self.shows(book, ("met",), to_z)
        self.denies(book, ("not",), to_z)
        self.shows(book, ("not",), to_b)
        self.denies(book, ("met",), to_b)
        self.shows(book, ("met",), ("rows", (("b", "a", ("said", 2)),)))
        self.denies(book, ("not",), ("rows", (("b", "a", ("said", 2)),)))

    def test_what_is_told_of_each_line(self):
        for text in (APART, TOGETHER):
            for words in ("a b", "a- b-", "a b-", "a- b"):
                book = Book(Hall(text), (before(words),))
                if (text, words) == (TOGETHER, "a- b"):
                    self.assertEqual(self.tells(book, (), "rows"), ("rows", (("a", "b", ("said", 0)),)))
                else:
                    self.tells(book, (), "timeline")
        # Nothing follows of s, who met nobody; of the others it follows for all who did not meet.
        self.assertEqual(sure(Book(Hall(APART), (before("a- b"),)), ()),
                         (("a", "b"), ("a", "q"), ("p", "b"), ("p", "q"), ("p", "r"), ("r", "q")))


class RowsTest(CasesTest):
    def right(self, book, row, ahead, contrary):
        """Whether a row is right behind the one ahead, by a bar that ends with it."""
        bar = ("rows", (ahead, contrary, row))
        self.assertIs(shows_barred(book, (), bar), barred_is_right(book, (), bar), bar)
        return shows_barred(book, (), bar)

    def test_met(self):
        hall = Hall(APART)
        found = set()
        for x, y in permutations(hall.people, 2):
            book = Book(hall, (before("a- b"), before(f"{y}- {x}")))
            for name in (*hall.people, "w", None, 1, True, ["p"], ("p",)):
                if self.right(book, (x, y, ("met", 0, name)), ("a", "b", ("said", 0)), (y, x, ("said", 1))):
                    found.add((x, y, name))
        self.assertEqual(found, {("p", "b", "p"), ("a", "q", "q")})

    def test_through(self):
        hall = Hall("people a b c d")
        book = Book(hall, (before("a- b"), before("b- c"), before("c- a")))
        ahead = (("a", "b", ("said", 0)), ("b", "c", ("said", 1)), ("c", "a", ("said", 2)))
        found = set()
        for x, y in permutations("abcd", 2):
            for k in range(-1, 5):
                for m in range(-1, 5):
                    bar = ("rows", (*ahead, (x, y, ("through", k, m))))
                    self.assertIs(shows_barred(book, (), bar), barred_is_right(book, (), bar))
                    if shows_barred(book, (), bar):
                        found.add((x, y, k, m))
        self.assertEqual(found, {("a", "c", 0, 1), ("b", "a", 1, 2), ("c", "b", 2, 0)})

    def test_through_leads_to_two_unlike_people(self):
        book = Book(Hall("people a b c"), (before("a- b"), before("b- a")))
        ahead = (("a", "b", ("said", 0)), ("b", "a", ("said", 1)))
        self.shows(book, (), ("rows", ahead))
        self.denies(book, (), ("rows", (*ahead, ("a", "a", ("through", 0, 1)))))

    def test_rows_stand_ahead(self):
        book = Book(Hall(APART), (before("a- b"), before("b- p")))
        first, last = ("a", "b", ("said", 0)), ("b", "p", ("said", 1))
        self.shows(book, (), ("rows", (first, ("p", "b", ("met", 0, "p")), last)))
        self.shows(book, (), ("rows", (last, first, ("p", "b", ("met", 1, "p")))))
        for number in (1, 2, 3, -1, -2, -3, True, False, None, "0", (0,), [0], 10 ** 11):
            self.denies(book, (), ("rows", (first, ("p", "b", ("met", number, "p")), last)))
        self.denies(book, (), ("rows", (("p", "b", ("met", 1, "p")), first, last)))

    def test_how_rows_end(self):
        book = Book(Hall(APART), (before("a- b"), before("b- p"), before("b- r"), before("r- a")))
        first, second, third = ("a", "b", ("said", 0)), ("p", "b", ("met", 0, "p")), ("b", "p", ("said", 1))
        self.shows(book, (), ("rows", (first, second, third)), ("rows", (first, third, second)),
                   ("rows", (first, first, third, second)), ("rows", (first, second, second, third)),
                   ("rows", (("b", "r", ("said", 2)),)), ("rows", (first, ("b", "r", ("said", 2)))),
                   ("rows", (("b", "r", ("said", 2)), ("r", "a", ("said", 3)))))
        self.denies(book, (), ("rows", ()), ("rows", (first,)), ("rows", (first, second)), ("rows", (third, first)),
                    ("rows", (first, third)), ("rows", (first, second, third, first)),
                    ("rows", (("b", "r", ("said", 2)), first)))

    def test_rows_behind_a_wrong_one_count_too(self):
        book = Book(Hall(APART), (before("b- r"), before("a- b"), before("b- a")))
        self.shows(book, (), ("rows", (("b", "r", ("said", 0)), ("a", "b", ("said", 1)), ("b", "a", ("said", 2)))))
        self.denies(book, (), ("rows", (("b", "r", ("said", 0)), ("a", "b", ("said", 1)))))

    def test_nearly_right(self):
        book = Book(Hall(APART), (before("a- b"), before("b- p"), ("met", "a", "r")))
        rows = (("a", "b", ("said", 0)), ("p", "b", ("met", 0, "p")), ("b", "p", ("said", 1)))
        self.shows(book, (), ("rows", rows))
        self.denies(book, (), ("rows", list(rows)), ["rows", rows], ("rows",), ("rows", rows, rows), ("rows", *rows),
                    rows, ("Rows", rows), ("rows", (rows,)), ("rows", rows[0]), ("rows", {}), ("rows", "rows"),
                    ("rows", None))
        for at in range(3):
            one, other, why = rows[at]
            for row in (list(rows[at]), (one, other), (one, other, why, why), (one, other, list(why)),
                        (other, one, why),
                        (one, one, why), (one, "w", why), (one, None, why), (one, [other], why), ((one, other), why),
                        (one, other, why[:1]), (one, other, (*why, 0)), (one, other, None), (one, other, why[1]), None,
                        (one, other, "said"), (one, other, ("said", True)), (one, other, ("said", 2)), (1, True, why),
                        (one, other, ("said", 3)), (one, other, ("said", -1)), (one, other, ("said", -2)), "row", (),
                        (one, other, ("Said", why[1])), (one, other, (["said"], why[1])), (one, other, ("chosen",)),
                        (one, other, ()), (one, other, ("said", None)), (one, other, ("met", 0)),
                        (one, other, ("met",)), (one, other, ("through", 0)), (one, other, ("through", 0, 0)),
                        (one, other, ("through", 0, None)),
                        (one, other, ("met", 0, ["p"])), (one, other, ("met", False, "p")),
                        (one, other, ("met", 0, 0))):
                self.denies(book, (), ("rows", (*rows[:at], row, *rows[at + 1:])))

    def test_said_is_a_saying_with_the_word_before(self):
        book = Book(Hall(APART), (("not", "a", "b"), ("met", "a", "b"), before("b- a")))
        for number in (0, 1):
            self.denies(book, (), ("rows", (("b", "a", ("said", 2)), ("a", "b", ("said", number)))))

    def test_what_is_told(self):
        for sayings in ((before("a- b"), before("b- p")), (before("a b"), before("q- a-")),
                        (before("p r"), before("b- r-")), (before("a s"), before("s b-"), before("b p"))):
            self.tells(Book(Hall(APART), sayings), (), "rows")


class RoundTest(CasesTest):
    HALL = Hall("people a b c d\nmet a b c d")

    def test_two_in_and_two_out(self):
        for sign in ("", "-"):
            book = Book(self.HALL, (before(f"a{sign} b{sign}"), before(f"b{sign} a{sign}")))
            self.tells(book, (), "round")
            self.shows(book, (), ("round", (0, 1)), ("round", (1, 0)))
            self.denies(book, (), ("round", (0,)), ("round", ()), ("round", (0, 1, 0)), ("round", (0, 1, 0, 1)),
                        ("round", (0, 0)), ("round", 0),
                        ("round", [0, 1]), ("round", (0, 1, 2)), ("round", (0, -1)), ("round", (-2, -1)),
                        ["round", (0, 1)], ("round", (False, True)), ("round", (0, True)), ("round", (False, 1)),
                        ("round", (0, 1), (1, 0)),
                        ("round", 0, 1), ("round",), ("round", "01"), ("round", None), ("round", (0, None)),
                        ("round", ((0, 1),)), ("round", (0, [1])), ("round", (0, "1")), ("Round", (0, 1)))

    def test_three_and_four(self):
        book = Book(self.HALL, (before("a- b-"), before("c- a-"), before("b- c-"), before("b- d-"), before("d- c-")))
        self.tells(book, (), "round")
        self.shows(book, (), *[("round", numbers) for numbers in ((0, 2, 1), (2, 1, 0), (1, 0, 2), (0, 3, 4, 1))])
        self.denies(book, (), *[("round", numbers) for numbers in (
            (0, 1, 2), (1, 2, 0), (0, 1), (0, 2), (0, 2, 1, 0), (0, 3, 1), (0, 2, 4, 1), (0, 1, 2, 3, 4),
            (0, 2, 1, 3, 4))])

    def test_somebody_passed_twice(self):
        book = Book(self.HALL, (before("a b"), before("b a"), before("a c"), before("c a")))
        self.shows(book, (), ("round", (0, 1, 2, 3)), ("round", (3, 0, 1, 2)), ("round", (0, 1)), ("round", (2, 3)))
        self.denies(book, (), ("round", (0, 2, 1, 3)), ("round", (0, 1, 3, 2)), ("round", (0, 3)), ("round", (1, 3)),
                    ("round", (0, 1, 2, 3, 0, 1)))

    def test_the_same_saying_twice(self):
        book = Book(self.HALL, (before("a b"), before("a b"), before("b a")))
        self.shows(book, (), ("round", (0, 2)), ("round", (1, 2)))
        self.denies(book, (), ("round", (0, 1)), ("round", (0, 1, 2)))
        twice = Book(self.HALL, (before("a b"), before("a b"), before("b a"), before("b a")))
        self.shows(twice, (), ("round", (0, 2, 1, 3)))

    def test_in_and_out_are_not_mixed(self):
        mixed = Book(self.HALL, (before("a b"), before("b- a-")))
        self.tells(mixed, (), "timeline")
        self.denies(mixed, (), ("round", (0, 1)))
        other = Book(self.HALL, (before("a b-"), before("b- a"), before("a- b"), before("b a-")))
        for numbers in ((0, 1), (2, 3), (1, 0), (3, 2)):
            self.denies(other, (), ("round", numbers))

    def test_other_sayings_are_none_of_it(self):
        book = Book(self.HALL, (before("a b"), ("met", "b", "a"), before("b a")))
        self.denies(book, (), ("round", (0, 1)), ("round", (0, 1, 2)), ("round", (1, 2)), ("round", (1,)))
        self.shows(book, (), ("round", (0, 2)))

    def test_also_of_people_who_did_not_meet(self):
        book = Book(Hall("people a b"), (before("a b"), before("b a")))
        self.shows(book, (), ("round", (0, 1)), ("rows", (("a", "b", ("said", 0)), ("b", "a", ("said", 1)))))
        self.assertNotEqual(barred(book, ())[0], "timeline")


class SureTest(CasesTest):
    def test_nothing_said(self):
        for text in (APART, TOGETHER, "people a", "people a b", "people a b\nmet a b"):
            self.assertEqual(sure(Book(Hall(text)), ()), ())

    def test_ascending_whatever_the_sequence_of_the_people(self):
        book = Book(Hall("people c a b"), (before("c- b"), before("b- a")))
        self.assertEqual(sure(book, ()), (("b", "a"), ("c", "a"), ("c", "b")))
        self.assertEqual([type(sure(book, ())), type(sure(book, ())[0])], [tuple, tuple])

    def test_a_saying_twice(self):
        once = Book(HALL, HEARD.sayings)
        twice = once + HEARD.sayings[0]
        for cases in (("met",), ("not",)):
            self.assertEqual(sure(twice, cases), sure(once, cases))

    def test_met_either_way_about(self):
        for saying in (("met", "cyd", "dan"), ("met", "dan", "cyd")):
            self.assertEqual(sure(HEARD + saying, ("met",)), sure(HEARD, ("met",)))
            self.tells(HEARD + saying, ("not",), "said")


class AnyValueTest(CasesTest):
    BOOKS = (Book(DUO), Book(DUO, (before("x z"), ("not", "x", "y"))), FOUR, Book(Hall(NET)), Book(Hall("people x")))

    def test_all_of_them_are_denied(self):
        for book in self.BOOKS:
            for value in any_values():
                self.denies(book, (), value)
                for word in ("timeline", "ring", "said", "rows", "round", "none", "ask"):
                    if (word, type(value), value) != ("said", int, 1) or book is not self.BOOKS[1]:
                        self.denies(book, (), (word, value), (value, word))
                    self.denies(book, (), ("three", value, value), ("three", ("x", "y", "z"), value), (word, (value,)),
                                (word, value, value, value), (word, (value, value)), (value, value), [word, value])

    def test_nested_ones(self):
        for kind in (tuple, list):
            deep = nested(kind, 28)
            for word in ("timeline", "ring", "said", "rows", "round"):
                self.denies(FOUR, (), (word, deep), (word, (deep,)), (deep, word))

    def test_arguments_are_not_changed(self):
        cases = ["met"]
        raised(self, BadCases, barred, WRONG, cases)
        self.assertEqual(cases, ["met"])
        value = ["rows", [["ann", "cyd", ["said", 0]]]]
        kept = copy.deepcopy(value)
        self.denies(WRONG, ("met",), value, tuple(value), ("rows", value[1]), ("rows", tuple(value[1])))
        self.assertEqual(value, kept)

    def test_equal_calls_equal_results(self):
        for book, cases in ((WRONG, ("met",)), (HEARD, ("not",)), (FOUR, ()), (Book(Hall(NET)), ())):
            twin = Book(Hall(book.hall.text), tuple(list(book.sayings)))
            for _ in range(2):
                self.assertEqual(barred(book, cases), barred(twin, cases))
            self.assertEqual(book, twin)


if __name__ == "__main__":
    unittest.main()
