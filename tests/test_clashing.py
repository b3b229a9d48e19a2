"""Point 12, with what point 2 says of it."""

import copy
import unittest

from metonce.books import Book
from metonce.clashing import clash, needless, shows_clash
from metonce.errors import NoTimeline
from metonce.halls import Hall
from tests.answers import clash_is_right, needless_of
from tests.samples import DUO, LINE, any_values, before, line_of, nested, refuses
from tests.test_cases import FOUR, HALL, HEARD, NET, WRONG

TOGETHER = Hall("people a b c d\nmet a b c d")
APART = Hall("people a b c d")
RING = ("ring", ("a", "b", "c", "d"))


def book_of(hall, *words):
    return Book(hall, tuple(before(told) for told in words))


class ClashingTest(unittest.TestCase):
    def shows(self, book, *values):
        for value in values:
            self.assertIs(clash_is_right(book, value), True, value)
            self.assertIs(shows_clash(book, value), True, value)

    def denies(self, book, *values):
        for value in values:
            self.assertIs(shows_clash(book, value), False, value)

    def least(self, book):
        """The numbers that clash tells, which is right by the look."""
        told = clash(book)
        self.assertEqual((told[0], len(told), type(told)), ("least", 3, tuple))
        self.shows(book, told)
        return told[1]

    def fits(self, book):
        told = clash(book)
        self.assertEqual((told[0], len(told), type(told)), ("timeline", 2, tuple))
        self.shows(book, told)

    def are_needless(self, book, *numbers):
        told = needless(book)
        self.assertEqual((told, type(told)), (numbers, tuple))
        self.assertEqual(needless_of(book), numbers)


class DocumentTest(ClashingTest):
    def test_the_example(self):
        self.assertEqual(
            [needless(HEARD + ("before", ("ann", "out"), ("cyd", "in"))), clash(WRONG + ("met", "ann", "bob"))[:2],
             clash(Book(FOUR.hall, (("met", "a", "b"),)))[1]],
            [(0, 1), ("least", (1, 2)), ()])

    def test_by_names(self):
        self.assertEqual(needless(book=HEARD), ())
        self.assertEqual(clash(book=WRONG), clash(WRONG))
        self.assertIs(shows_clash(value=clash(WRONG), book=WRONG), True)

    def test_functions_stand_in_their_file(self):
        for function in (needless, clash, shows_clash):
            self.assertEqual(function.__module__, "metonce.clashing")


class NeedlessTest(ClashingTest):
    def test_none(self):
        for book in (Book(DUO), HEARD, book_of(APART, "a b", "b c"), book_of(TOGETHER, "a b", "b c", "c- a-")):
            self.are_needless(book)

    def test_told_twice(self):
        self.are_needless(book_of(APART, "a b", "c d", "a b"), 0, 2)
        self.are_needless(book_of(TOGETHER, "a b", "a b", "a b"), 0, 1, 2)
        self.are_needless(book_of(APART, "a b", "a- b-"), 0, 1)
        self.are_needless(Book(Hall("people a b\nopen a b"), (("met", "a", "b"), ("met", "b", "a"))), 0, 1)

    def test_what_follows_from_the_hall(self):
        self.are_needless(Book(DUO, (("met", "x", "y"), before("x z"), ("not", "z", "x"), before("y x-"))), 0, 2, 3)

    def test_what_follows_from_the_others(self):
        self.are_needless(book_of(APART, "a b", "b c", "a c"), 2)
        self.are_needless(book_of(TOGETHER, "a b", "b c", "a c"), 2)
        self.are_needless(book_of(Hall("people a b c\nmet b c"), "a- b", "a- c"), 0, 1)
        self.are_needless(book_of(Hall("people a b c\nopen b c"), "a- b", "b- c", "a c-"), 2)

    def test_what_follows_in_some_cases_only(self):
        unknown = Book(Hall("people a b c\nopen b c"), (before("a- b"), before("a- c")))
        self.are_needless(unknown)
        self.are_needless(unknown + ("met", "b", "c"), 0, 1)
        self.are_needless(unknown + before("c- b"), 0)

    def test_no_timeline_with_the_very_book(self):
        for book in (FOUR, WRONG, Book(Hall(NET)), Book(DUO, (("not", "x", "y"),)), book_of(TOGETHER, "a b", "b a")):
            refuses(self, NoTimeline, book, needless, book)

    def test_thirty_sayings(self):
        self.are_needless(Book(APART, (before("a b"),) * 30), *range(30))
        self.are_needless(Book(TOGETHER, (before("c d"),) + (before("a b"),) * 29), *range(1, 30))


class ClashTest(ClashingTest):
    def test_a_timeline(self):
        for book in (Book(DUO), HEARD, book_of(TOGETHER, "a b", "b c", "c d", "d- a-"), Book(Hall("people a"))):
            self.fits(book)

    def test_no_timeline_keeps_the_hall(self):
        for hall in (FOUR.hall, Hall(NET)):
            for sayings in ((), (("met", "a", "b"),), (before("a b"), before("b a"), ("met", "a", "c"))):
                self.assertEqual(self.least(Book(hall, sayings)), ())

    def test_one_saying(self):
        for saying in (("not", "a", "b"), ("not", "b", "a"), before("a- b"), before("b- a")):
            self.assertEqual(self.least(Book(TOGETHER, (saying,))), (0,))
            self.assertEqual(self.least(Book(TOGETHER, (before("c d"), before("d a"), saying, before("c a")))), (2,))

    def test_two_of_which_either_may_be_told(self):
        book = book_of(APART, "a b", "b a", "a b")
        self.assertIn(self.least(book), ((0, 1), (1, 2)))
        tree = [("rows", (("a", "b", ("said", at)), ("b", "a", ("said", 1 - at)))) for at in (0, 1)]
        self.shows(book, ("least", (0, 1), tree[0]), ("least", (1, 2), tree[1]), ("least", (0, 1), ("round", (1, 0))))
        self.denies(book, ("least", (0, 1), tree[1]), ("least", (0, 2), tree[0]), ("least", (0, 1, 2), tree[0]),
                    ("least", (1,), tree[0]), ("least", (), tree[0]), ("least", (1, 0), tree[0]),
                    ("least", (0, 1), ("rows", (("a", "b", ("said", 1)), ("b", "a", ("said", 2))))))

    def test_rounds(self):
        for count in (2, 3, 4):
            row = "abcd"[:count]
            book = book_of(TOGETHER, *[f"{row[at - 1]} {row[at]}" for at in range(count)])
            self.assertEqual(self.least(book), tuple(range(count)))
        longer = book_of(TOGETHER, "a b", "b c", "c d", "d a", "c a")
        self.assertIn(self.least(longer), ((0, 1, 4), (0, 1, 2, 3)))
        self.shows(longer, ("least", (0, 1, 4), ("round", (0, 1, 2))), ("least", (0, 1, 2, 3), ("round", (0, 1, 2, 3))))
        self.denies(longer, ("least", (0, 1, 4), ("round", (0, 1, 4))),
                    ("least", (0, 1, 2, 3, 4), ("round", (0, 1, 4))))

    def test_the_tree_tells_the_numbers_in_the_few(self):
        book = Book(Hall("people a b\nopen a b"), (before("a b"), ("met", "a", "b"), before("b- a-"),
                                                   ("not", "b", "a")))
        self.assertEqual(self.least(book), (1, 3))
        tree = ("ask", 0, ("said", 1), ("said", 0))
        self.shows(book, ("least", (1, 3), tree))
        self.denies(book, ("least", (1, 3), ("ask", 0, ("said", 3), ("said", 1))), ("least", (1, 3), tree[2]),
                    ("least", (1, 3), ("ask", 0, ("said", 0), ("said", 1))), ("least", (1,), tree),
                    ("least", (3,), tree))

    def test_not_least(self):
        book = Book(TOGETHER, (before("a b"), ("not", "a", "c"), before("b a")))
        self.shows(book, ("least", (1,), ("said", 0)), ("least", (0, 2), ("round", (0, 1))))
        self.denies(book, ("least", (0, 1), ("said", 1)), ("least", (1, 2), ("said", 0)),
                    ("least", (0, 1, 2), ("said", 1)), ("least", (0, 1, 2), ("round", (0, 2))),
                    ("least", (0,), ("said", 0)))
        ring = Book(FOUR.hall, (("not", "a", "b"),))
        self.shows(ring, ("least", (), RING))
        self.denies(ring, ("least", (0,), ("said", 0)), ("least", (0,), RING), ("least", (), ("said", 0)))

    def test_thirty_sayings(self):
        book = Book(TOGETHER, (before("a b"),) * 29 + (before("b a"),))
        numbers = self.least(book)
        self.assertEqual((len(numbers), numbers[1]), (2, 29))
        self.shows(book, *[("least", (number, 29), ("round", (0, 1))) for number in range(29)])

    def test_nearly_right(self):
        book = book_of(APART, "a b", "b a")
        tree = ("round", (0, 1))
        self.shows(book, ("least", (0, 1), tree))
        self.denies(book, ("least", [0, 1], tree), ["least", (0, 1), tree], ("Least", (0, 1), tree), ("least", (0, 1)),
                    ("least", (0, 1), tree, ()), ("least", (False, True), tree), ("least", (0, True), tree),
                    ("least", (0, 1), list(tree)), ("least", (0, 1), ("none", tree)), ("none", tree), ("least", tree),
                    ("least", (0, 0, 1), tree), ("least", (0, 2), tree), ("least", (-1, 0), tree),
                    ("least", (1, 0), tree),
                    ("least", ((0, 1),), tree), ("least", ("0", "1"), tree), ("least", None, tree), ("timeline", tree),
                    ("least", (0, 1), None), tree, ("least", 0, 1), ("least", (0, 1), (tree,)), (None, (0, 1), tree),
                    ("timeline", (0, 1), tree), ("timeline", line_of("a a- b b- c c- d d-")))

    def test_timelines(self):
        self.shows(Book(DUO), ("timeline", LINE))
        self.denies(Book(DUO), ("timeline", list(LINE)), ["timeline", LINE], ("timeline", LINE, ()), LINE,
                    ("least", LINE),
                    ("timeline", line_of("x x- y y- z z-")), ("Timeline", LINE), ("timeline", LINE[:5]), ("timeline",),
                    ("least", (), LINE), ("least", (), RING), ("none", LINE))
        self.denies(Book(DUO, (before("y x"),)), ("timeline", LINE))

    def test_any_value(self):
        for book in (Book(DUO), FOUR, WRONG, book_of(APART, "a b", "b a")):
            for value in any_values():
                if value != ():
                    self.denies(book, ("least", value, RING))
                self.denies(book, value, ("least", (value,), ("round", (0, 1))), ("least", (), value),
                            ("timeline", value),
                            (value, (), RING), ("least", value, value), ("least", (0, 1), value), (value, value, value))
                if type(value) is not int or value != 1:
                    self.denies(book, ("least", (0, value), ("round", (0, 1))))
            for kind in (tuple, list):
                self.denies(book, nested(kind, 30), ("least", nested(kind, 28), RING), ("least", (), nested(kind, 29)))

    def test_arguments_are_not_changed(self):
        value = ["least", [0, 1], ["round", [0, 1]]]
        kept = copy.deepcopy(value)
        self.denies(WRONG, value, tuple(value))
        self.assertEqual(value, kept)

    def test_equal_calls_equal_results(self):
        for book in (WRONG, HEARD, FOUR, Book(HALL)):
            twin = Book(Hall(book.hall.text), tuple(list(book.sayings)))
            for _ in range(2):
                self.assertEqual(clash(book), clash(twin))
            self.assertEqual(book, twin)
        self.assertEqual(needless(HEARD), needless(Book(Hall(HALL.text), tuple(list(HEARD.sayings)))))


if __name__ == "__main__":
    unittest.main()
