"""Point 9, with what point 2 says of it."""

import unittest
from itertools import permutations

from metonce.books import Book
from metonce.cases import barred, sure
from metonce.errors import NoTimeline
from metonce.halls import Hall
from metonce.possible import possible, shows_possible, surely, suspects
from tests.looks import all_cases, possible_is_right
from tests.samples import DUO, LINE, any_values, before, line_of, nested, raised, refuses
from tests.test_cases import FOUR, HALL, HEARD, NET, THREES, WRONG, ring_hall

RING = ("ring", ("a", "b", "c", "d"))
FOUR_OPEN = "\nopen e f\nopen f g\nopen g h\nopen h e"


class PossibleTest(unittest.TestCase):
    def shows(self, book, *values):
        for value in values:
            self.assertIs(possible_is_right(book, value), True, value)
            self.assertIs(shows_possible(book, value), True, value)

    def denies(self, book, *values):
        for value in values:
            self.assertIs(shows_possible(book, value), False, value)

    def tells(self, book, word):
        """What possible tells begins with this word, and is right by the look; gives what stands behind it."""
        told = possible(book)
        self.assertEqual((told[0], len(told), type(told)), (word, 2, tuple))
        self.shows(book, told)
        if word == "none":
            refuses(self, NoTimeline, book, surely, book)
        else:
            self.assertIs(book.fits(told[1]), True)
        return told[1]


class DocumentTest(PossibleTest):
    def test_the_example(self):
        four = Hall("people a b c d\nmet a b\nmet b c\nmet c d\nmet d a")
        self.assertEqual(
            [possible(Book(four))[0], shows_possible(Book(four), ("none", ("ring", ("b", "c", "d", "a")))),
             suspects(four), surely(HEARD), possible(WRONG)[0]],
            ["none", True, ("a", "b", "c", "d"), (("ann", "cyd"),), "none"])

    def test_by_names(self):
        self.assertEqual(possible(book=FOUR), possible(FOUR))
        self.assertIs(shows_possible(value=("none", RING), book=FOUR), True)
        self.assertEqual(surely(book=HEARD), (("ann", "cyd"),))
        self.assertEqual(suspects(hall=HALL), ("ann", "bob", "cyd", "dan"))

    def test_functions_stand_in_their_file(self):
        for function in (possible, shows_possible, surely, suspects):
            self.assertEqual(function.__module__, "metonce.possible")


class TimelineTest(PossibleTest):
    def test_one_fits(self):
        for text in ("people a", "people a b\nmet a b", "people a b", "people a b c\nopen a b\nopen b c", HALL.text):
            self.tells(Book(Hall(text)), "timeline")
        self.tells(HEARD, "timeline")
        self.assertEqual(possible(Book(Hall("people a"))), ("timeline", line_of("a a-")))

    def test_just_one_case_has_one(self):
        chain = "people a b c d\nmet a b\nmet b c\nmet c d\nopen d a"
        for sayings, word in (((), "timeline"), ((("not", "a", "d"),), "timeline"), ((("met", "a", "d"),), "none")):
            self.tells(Book(Hall(chain), sayings), word)
        cross = "people a b c d\nmet a b\nmet b c\nmet c d\nmet d a\nopen c a\nopen b d"
        for sayings in ((("not", "a", "c"),), (("not", "b", "d"),)):
            self.tells(Book(Hall(cross), sayings), "timeline")
        self.tells(Book(Hall(cross), (("not", "a", "c"), ("not", "b", "d"))), "none")

    def test_which_are_shown(self):
        book = Book(Hall("people a b\nopen a b"), (before("a b"),))
        self.shows(book, *[("timeline", line_of(words)) for words in ("a b a- b-", "a b b- a-", "a a- b b-")])
        self.denies(book, *[("timeline", line_of(words)) for words in ("b a a- b-", "b a b- a-", "b b- a a-")])
        two = Book(DUO)
        self.shows(two, ("timeline", LINE))
        self.denies(two, ("timeline", list(LINE)), ["timeline", LINE], ("timeline", LINE, ()), ("timeline",), LINE,
                    ("timeline", line_of("x x- y y- z z-")), ("timeline", LINE[:5]), ("none", LINE), ("Timeline", LINE),
                    ("timeline", tuple(reversed(LINE))), ("timeline", ("timeline", LINE)), (("timeline", LINE),))


class TreeTest(PossibleTest):
    def test_without_lines_open(self):
        self.assertEqual(self.tells(FOUR, "none")[0], "ring")
        self.shows(FOUR, ("none", RING), ("none", ("ring", ("b", "a", "d", "c"))))
        self.denies(FOUR, RING, ("none", RING, RING), ("none",), ["none", RING], ("none", list(RING)), ("None", RING),
                    ("none", ("none", RING)), ("none", ("ring", ("a", "c", "b", "d"))),
                    ("none", ("ask", 0, RING, RING)),
                    ("timeline", RING), ("none", (RING,)), ("ask", 0, RING, RING), (None, RING), ("none", None))

    def test_lines_open_that_need_not_be_asked(self):
        book = Book(Hall(FOUR.hall.text.replace("a b c d", "a b c d e f g h", 1) + FOUR_OPEN))
        self.assertEqual(self.tells(book, "none")[0], "ring")
        two = ("ask", 1, RING, ("ring", ("c", "b", "a", "d")))
        self.shows(book, ("none", RING), ("none", ("ask", 3, RING, RING)), ("none", two),
                   ("none", ("ask", 0, two, RING)), ("none", ("ask", 0, RING, two)), ("none", ("ask", 0, two, two)),
                   ("none", ("ask", 2, ("ask", 0, two, RING), ("ask", 3, RING, two))))

    def test_the_same_asked_twice_on_the_way(self):
        book = Book(Hall(FOUR.hall.text.replace("a b c d", "a b c d e f g h", 1) + FOUR_OPEN))
        again = ("ask", 2, RING, RING)
        self.denies(book, ("none", ("ask", 2, again, RING)), ("none", ("ask", 2, RING, again)),
                    ("none", ("ask", 2, ("ask", 1, RING, again), RING)), ("none", ("ask", 2, again, again)))
        self.shows(book, ("none", ("ask", 1, again, again)))
        deep = RING
        for number in (0, 1, 2, 3, 0):
            deep = ("ask", number, deep, RING)
        self.denies(book, ("none", deep))
        self.shows(book, ("none", deep[2]))

    def test_each_leaf_in_the_cases_that_agree(self):
        book = Book(Hall("people a b c d\nmet a b\nmet b c\nmet c d\nopen d a"), (("met", "a", "d"),))
        said = ("said", 0)
        self.assertEqual(barred(book, ("met",))[0], "ring")
        self.assertEqual(self.tells(book, "none")[:2], ("ask", 0))
        self.shows(book, ("none", ("ask", 0, RING, said)), ("none", ("ask", 0, ("ring", tuple("dcba")), said)))
        self.denies(book, ("none", ("ask", 0, said, RING)), ("none", ("ask", 0, RING, RING)), ("none", RING),
                    ("none", ("ask", 0, said, said)), ("none", said), ("none", ("ask", 1, RING, said)))

    def test_asked_in_another_sequence(self):
        book = Book(Hall("people a b c d\nmet a b\nmet b c\nmet c d\nopen d a\nopen c a"),
                    (("met", "a", "d"), ("not", "a", "c")))
        first, second = ("said", 0), ("said", 1)
        self.tells(book, "none")
        self.shows(book, ("none", ("ask", 0, ("ask", 1, second, RING), first)),
                   ("none", ("ask", 1, second, ("ask", 0, RING, first))),
                   ("none", ("ask", 0, ("ask", 1, second, RING), ("ask", 1, second, first))),
                   ("none", ("ask", 1, ("ask", 0, second, first), ("ask", 0, RING, first))))
        self.denies(book, ("none", ("ask", 0, ("ask", 1, RING, second), first)), ("none", ("ask", 0, RING, first)),
                    ("none", ("ask", 0, first, ("ask", 1, second, RING))), ("none", ("ask", 1, second, RING)),
                    ("none", ("ask", 1, second, ("ask", 0, first, RING))))

    def test_a_leaf_right_in_both_cases_by_the_same_rows(self):
        book = Book(Hall("people a b c d\nmet a b\nopen c d"), (before("a- c"), before("c- b"), before("a- b")))
        last = ("rows", (("a", "b", ("said", 2)),))
        through = ("rows", (("a", "c", ("said", 0)), ("c", "b", ("said", 1)), ("a", "b", ("through", 0, 1))))
        self.assertEqual(self.tells(book, "none")[0], "rows")
        self.shows(book, ("none", last), ("none", through), ("none", ("ask", 0, last, through)))

    def test_nearly_right(self):
        book = Book(Hall("people a b c d\nmet a b\nmet b c\nmet c d\nopen d a"), (("met", "a", "d"),))
        said = ("said", 0)
        for number in (1, -1, True, False, None, "0", (0,), [0], 10 ** 11):
            self.denies(book, ("none", ("ask", number, RING, said)))
        for tree in (("ask", 0, RING), ("ask", 0, RING, said, said), ["ask", 0, RING, said], ("Ask", 0, RING, said),
                     (None, 0, RING, said), ("ask", 0, list(RING), said), ("ask", 0, RING, ["said", 0]), ("ask", 0),
                     ("ask", 0, RING, None), ("ask", 0, (), said), ("ask", 0, (RING,), said), ("ask", (0, RING, said)),
                     ("ask", 0, RING, ("said", 1)), ("ask", 0, RING, ("said", False)), ("ask", RING, said), "ask", (),
                     ("ask", 0, ("none", RING), said), (("ask", 0, RING, said),), ("met", 0, RING, said)):
            self.denies(book, ("none", tree))

    def test_all_kinds_of_bars(self):
        together = Hall("people a b c\nmet a b c")
        for book, word in ((Book(Hall(NET)), "three"), (FOUR, "ring"), (Book(DUO, (("not", "x", "y"),)), "said"),
                           (Book(DUO, (before("x- y"),)), "rows"),
                           (Book(together, (before("a b"), before("b c"), before("c a"))), "round")):
            self.assertEqual(self.tells(book, "none")[0], word)

    def test_any_value(self):
        for book in (FOUR, Book(DUO), HEARD, WRONG, Book(Hall("people a"))):
            for value in any_values():
                self.denies(book, value, ("none", value), ("timeline", value), (value, value), (value, RING),
                            ("none", ("ask", 0, value, value)), ("none", ("ask", value, RING, RING)), [value, value],
                            ("none", ("ring", value)), ("none", ("rows", value)), ("none", ("said", (value,))))
            for kind in (tuple, list):
                self.denies(book, nested(kind, 30), ("none", nested(kind, 29)),
                            ("none", ("ask", 0, nested(kind, 27), RING)))
        deep = RING
        for _ in range(27):
            deep = ("ask", 0, deep, RING)
        self.denies(WRONG, ("none", deep))


class SurelyTest(PossibleTest):
    def test_in_all_cases_that_have_a_timeline(self):
        for book in (HEARD, HEARD + before("dan ann"), Book(HALL), HEARD + ("met", "cyd", "dan"),
                     HEARD + ("not", "cyd", "dan")):
            pairs = []
            for cases in all_cases(book.hall):
                if barred(book, cases)[0] == "timeline":
                    pairs.append(set(sure(book, cases)))
            self.assertEqual(surely(book), tuple(sorted(set.intersection(*pairs))))

    def test_a_case_without_a_timeline_does_not_count(self):
        self.assertEqual(surely(HEARD + ("met", "cyd", "dan")), sure(HEARD, ("met",)))
        self.assertEqual(surely(HEARD + before("dan ann")), sure(HEARD + before("dan ann"), ("not",)))
        chain = Book(Hall("people a b c d\nmet a b\nmet b c\nmet c d\nopen d a"), (before("a- c"),))
        self.assertEqual(surely(chain), (("a", "c"), ("a", "d"), ("b", "d")))

    def test_the_very_book_is_told(self):
        for book in (FOUR, WRONG, Book(DUO, (("not", "x", "y"),)),
                     Book(Hall(NET + "\nopen x y"), (("not", "y", "x"),))):
            refuses(self, NoTimeline, book, surely, book)

    def test_nothing_is_sure(self):
        for text in ("people a", "people a b", "people a b\nmet a b", "people a b\nopen a b"):
            self.assertEqual(surely(Book(Hall(text))), ())

    def test_ascending(self):
        book = Book(Hall("people c a b\nopen a b"), (before("c- a"), before("c- b"), before("b- a")))
        self.assertEqual(surely(book), (("b", "a"), ("c", "a"), ("c", "b")))


class SuspectsTest(PossibleTest):
    def test_one_person(self):
        self.assertEqual(suspects(Hall("people a")), ())

    def test_all_if_there_is_a_timeline(self):
        for text in ("people b a", "people c a b\nmet a b\nopen b c", "people a b\nmet a b", HALL.text):
            self.assertEqual(suspects(Hall(text)), Hall(text).people)

    def test_in_the_sequence_of_the_hall(self):
        for people in permutations("abcd"):
            hall = Hall("people " + " ".join(people) + "\nmet a b\nmet b c\nmet c d\nmet d a")
            self.assertEqual(suspects(hall), people)
        self.assertEqual(suspects(Hall("people e d x c b a\nmet a b\nmet b c\nmet c d\nmet d a\nmet x e")),
                         tuple("dcba"))

    def test_nobody(self):
        hall = Hall("people a b c d e f g h\nmet a b\nmet b c\nmet c d\nmet d a\nmet e f\nmet f g\nmet g h\nmet h e")
        self.assertEqual(suspects(hall), ())
        self.assertEqual(suspects(hall.without("h")), tuple("abcd"))

    def test_two_rings_through_the_same_people(self):
        hall = Hall("people x a d c b y\nmet a b\nmet b c\nmet c d\nmet d a\nmet x b\nmet x d\nmet y a")
        self.assertEqual(suspects(hall), ("d", "b"))

    def test_rings_and_threes(self):
        for many in range(4, 10):
            self.assertEqual(suspects(ring_hall(many)), ring_hall(many).people)
        for text in THREES:
            hall = Hall(text)
            self.assertEqual(suspects(hall), tuple(name for name in hall.people
                                                   if possible(Book(hall.without(name)))[0] == "timeline"))
            self.assertLessEqual({"x", "y", "z"}, set(suspects(hall)))

    def test_lines_open_are_still_open(self):
        hall = Hall("people a b c d e\nmet a b\nmet b c\nmet c d\nmet d a\nopen a c\nopen b e")
        self.assertEqual(suspects(hall), hall.people)
        chain = Hall("people a b c d e\nmet a b\nmet b c\nmet c d\nmet d a\nopen a e\nopen c e")
        self.assertEqual(suspects(chain), tuple("abcd"))


class UnchangedTest(PossibleTest):
    def test_equal_calls_equal_results(self):
        for book in (FOUR, HEARD, WRONG, Book(Hall(NET))):
            twin = Book(Hall(book.hall.text), tuple(list(book.sayings)))
            for _ in range(2):
                self.assertEqual(possible(book), possible(twin))
                self.assertEqual(suspects(book.hall), suspects(twin.hall))
            self.assertEqual(book, twin)

    def test_a_call_that_raises(self):
        twin = Book(Hall(WRONG.hall.text), tuple(list(WRONG.sayings)))
        for _ in range(2):
            self.assertIs(raised(self, NoTimeline, surely, WRONG), WRONG)
        self.assertEqual(WRONG, twin)


if __name__ == "__main__":
    unittest.main()
