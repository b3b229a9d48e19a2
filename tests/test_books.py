"""Point 7, with what point 2 says of it."""

import copy
import unittest

from metonce.books import Book
from metonce.errors import BadSaying, BadSayings, BadTimeline, Full, NoSaying, OtherHall
from metonce.halls import Hall
from metonce.sayings import contrary, is_so
from metonce.timelines import turned
from tests.looks import Room, all_cases, line_holds, line_is_right
from tests.samples import (DUO, LINE, all_sayings, all_timelines, any_values, before, line_of, nearly_sayings, nested,
                           raised, refuses)

TRIO = ("x", "y", "z")
MET = ("met", "x", "y")
NOT = ("not", "x", "z")
BEFORE = before("y- z")


class BooksTest(unittest.TestCase):
    def stays(self, book, hall, sayings):
        """The book is still of this very hall with these sayings."""
        self.assertIs(book.hall, hall)
        self.assertEqual(book.sayings, sayings)
        self.assertEqual(len(book), len(sayings))


class MakingTest(BooksTest):
    def test_the_example_of_the_document(self):
        book = Book(DUO, (("before", ("y", "out"), ("z", "in")),))
        self.assertEqual(
            [book.fits(LINE), book.broken(turned(DUO, LINE)), is_so(DUO, LINE, ("met", "y", "z")),
             contrary(DUO, ("before", ("x", "in"), ("y", "in")))],
            [True, (0,), False, ("before", ("y", "in"), ("x", "in"))])

    def test_properties(self):
        sayings = (MET, BEFORE, MET)
        book = Book(DUO, sayings)
        self.stays(book, DUO, sayings)
        self.assertIs(type(book.sayings), tuple)

    def test_the_sayings_may_be_left_out(self):
        self.stays(Book(DUO), DUO, ())
        self.stays(Book(hall=DUO), DUO, ())
        self.assertEqual(Book(DUO), Book(DUO, ()))

    def test_by_names(self):
        self.stays(Book(sayings=(MET,), hall=DUO), DUO, (MET,))
        self.stays(Book(DUO, sayings=(NOT,)), DUO, (NOT,))

    def test_all_sayings_of_the_hall(self):
        for saying in all_sayings(TRIO):
            self.stays(Book(DUO, (saying,)), DUO, (saying,))

    def test_sayings_may_be_against_the_hall_and_one_another(self):
        sayings = (("not", "x", "y"), MET, BEFORE, before("z y-"), MET)
        self.stays(Book(DUO, sayings), DUO, sayings)

    def test_thirty_sayings_and_one_more(self):
        sayings = tuple(all_sayings(TRIO)[:30])
        self.assertEqual(len(Book(DUO, sayings)), 30)
        self.assertEqual(len(Book(DUO, (MET,) * 30)), 30)
        for value in ((*sayings, MET), (MET,) * 31, (MET,) * 40, (*sayings, None)):
            refuses(self, BadSayings, value, Book, DUO, value)

    def test_what_are_no_sayings(self):
        for value in any_values():
            if value != ():
                refuses(self, BadSayings, value, Book, DUO, value)
                refuses(self, BadSayings, value, Book, hall=DUO, sayings=value)
        for value in [*any_values(), *nearly_sayings()]:
            for sayings in ((value,), (MET, value), (value, BEFORE), [value]):
                refuses(self, BadSayings, sayings, Book, DUO, sayings)
        for sayings in ([], [MET], {}, {MET: True}, MET, BEFORE, ((MET,),), (MET, [NOT]), nested(tuple, 30), (DUO,)):
            refuses(self, BadSayings, sayings, Book, DUO, sayings)

    def test_sayings_of_another_hall(self):
        sayings = (MET, NOT)
        refuses(self, BadSayings, sayings, Book, Hall("people x y"), sayings)
        refuses(self, BadSayings, sayings, Book, Hall("people x"), sayings)

    def test_methods_stand_in_the_class(self):
        for name in ("__init__", "fits", "broken", "without", "__add__", "__or__", "__len__", "__contains__",
                     "__iter__", "__eq__"):
            self.assertIn(name, vars(Book))
        self.assertEqual(Book.__module__, "metonce.books")


class FittingTest(BooksTest):
    def test_all_timelines_of_three(self):
        halls = [Hall("people x y z" + more) for more in (
            "", "\nmet x y", "\nmet x y\nmet y z", "\nmet x y z", "\nopen x z", "\nmet x y\nopen z y",
            "\nmet z x\nopen x y", "\nopen y x\nopen z y\nopen x z")]
        books = [(), (MET,), (NOT,), (BEFORE,), (BEFORE, BEFORE), (before("z x"), MET, before("y- x-")),
                 (before("x z-"), before("z- x"))]
        for hall in halls:
            rooms = [Room(hall.text, cases) for cases in all_cases(hall)]
            for sayings in books:
                book = Book(hall, sayings)
                for line in all_timelines(TRIO)[::3]:
                    so = any(line_is_right(room, sayings, line) for room in rooms)
                    self.assertIs(book.fits(line), so, (hall.text, sayings, line))
                    against = tuple(at for at, saying in enumerate(sayings) if not line_holds(line, saying))
                    self.assertEqual(book.broken(line), against)

    def test_a_timeline_that_does_not_keep_the_hall(self):
        apart = line_of("x x- y y- z z-")
        self.assertIs(Book(DUO).fits(apart), False)
        self.assertIs(Book(DUO, (("not", "x", "y"),)).fits(apart), False)
        self.assertEqual(Book(DUO, (("not", "x", "y"), MET, before("x y"))).broken(apart), (1,))
        self.assertEqual(Book(DUO).broken(apart), ())
        self.assertIs(Book(DUO).fits(line_of("x y z x- y- z-")), False)

    def test_an_open_pair_may_or_may_not_meet(self):
        book = Book(Hall("people x y\nopen y x"))
        self.assertIs(book.fits(line_of("x y x- y-")), True)
        self.assertIs(book.fits(line_of("y y- x x-")), True)

    def test_a_saying_twice_is_broken_twice(self):
        book = Book(DUO, (NOT, BEFORE, before("x z"), BEFORE))
        back = turned(DUO, LINE)
        self.assertEqual(book.broken(back), (1, 2, 3))
        self.assertEqual(book.broken(LINE), ())
        self.assertIs(type(book.broken(LINE)), tuple)

    def test_by_names(self):
        self.assertIs(Book(DUO, (BEFORE,)).fits(timeline=LINE), True)
        self.assertEqual(Book(DUO, (BEFORE,)).broken(timeline=turned(DUO, LINE)), (0,))

    def test_what_is_no_timeline(self):
        book = Book(DUO, (BEFORE,))
        for value in [*any_values(), LINE[:5], list(LINE), tuple(reversed(LINE)), (*LINE[:5], ["z", "out"]),
                      line_of("x y x- y-"), ("timeline", LINE), (*LINE[:5], ("z", "in"))]:
            refuses(self, BadTimeline, value, book.fits, value)
            refuses(self, BadTimeline, value, book.broken, value)
            refuses(self, BadTimeline, value, Book(DUO).broken, value)
        self.stays(book, DUO, (BEFORE,))


class ChangedTest(BooksTest):
    def test_plus(self):
        book = Book(DUO, (MET,))
        more = book + BEFORE
        self.assertIsInstance(more, Book)
        self.stays(more, DUO, (MET, BEFORE))
        self.stays(more + MET, DUO, (MET, BEFORE, MET))
        self.stays(more + ("met", "y", "x"), DUO, (MET, BEFORE, ("met", "y", "x")))
        self.stays(book, DUO, (MET,))
        self.stays(more, DUO, (MET, BEFORE))

    def test_plus_in_place_leaves_the_book(self):
        book = kept = Book(DUO, (MET,))
        book += BEFORE
        self.stays(book, DUO, (MET, BEFORE))
        self.stays(kept, DUO, (MET,))

    def test_plus_what_is_no_saying(self):
        full = Book(DUO, (MET,) * 30)
        for value in [*any_values(), *nearly_sayings()]:
            refuses(self, BadSaying, value, lambda saying: Book(DUO) + saying, value)
            refuses(self, BadSaying, value, lambda saying: full + saying, value)
        self.stays(full, DUO, (MET,) * 30)

    def test_plus_when_there_are_thirty(self):
        book = Book(DUO, (MET,) * 29) + NOT
        self.stays(book, DUO, (MET,) * 29 + (NOT,))
        for saying in (MET, NOT, BEFORE):
            value = raised(self, Full, lambda told: book + told, saying)
            self.assertEqual((value, type(value)), (30, int))
        self.stays(book, DUO, (MET,) * 29 + (NOT,))

    def test_without(self):
        book = Book(DUO, (MET, BEFORE, MET))
        self.stays(book.without(0), DUO, (BEFORE, MET))
        self.stays(book.without(1), DUO, (MET, MET))
        self.stays(book.without(2), DUO, (MET, BEFORE))
        self.stays(book.without(number=1), DUO, (MET, MET))
        self.stays(Book(DUO, (NOT,)).without(0), DUO, ())
        self.stays(book, DUO, (MET, BEFORE, MET))
        self.assertIsInstance(book.without(0), Book)

    def test_without_what_is_no_number(self):
        book = Book(DUO, (MET, BEFORE))
        for value in [*any_values(), MET, (0,), [0], "0", 2, 3, 30, -1, -2, 10 ** 11]:
            if type(value) is int and value in (0, 1):
                continue
            refuses(self, NoSaying, value, book.without, value)
            refuses(self, NoSaying, value, book.without, number=value)
        for value in (0, 1, -1, False):
            refuses(self, NoSaying, value, Book(DUO).without, value)
        self.stays(book, DUO, (MET, BEFORE))

    def test_or(self):
        one = Book(DUO, (MET, BEFORE))
        other = Book(DUO, (NOT, BEFORE, ("met", "y", "x"), NOT, MET))
        self.stays(one | other, DUO, (MET, BEFORE, NOT, ("met", "y", "x"), NOT))
        self.stays(other | one, DUO, other.sayings)
        self.stays(one | Book(DUO), DUO, one.sayings)
        self.stays(Book(DUO) | other, DUO, other.sayings)
        self.stays(one | one, DUO, one.sayings)
        self.stays(Book(DUO, (MET, MET)) | Book(DUO, (MET, NOT, NOT)), DUO, (MET, MET, NOT, NOT))
        self.stays(one, DUO, (MET, BEFORE))
        self.stays(other, DUO, (NOT, BEFORE, ("met", "y", "x"), NOT, MET))
        self.assertIsInstance(one | other, Book)

    def test_or_with_an_equal_hall(self):
        twin = Hall(DUO.text)
        self.stays(Book(DUO, (MET,)) | Book(twin, (NOT,)), DUO, (MET, NOT))

    def test_or_with_another_hall(self):
        one = Book(DUO, (MET,) * 30)
        for text in ("people x y z\nmet y x", "people x y z", "people y x z\nmet x y",
                     "people x y z\nmet x y\nmet x y"):
            for other in (Book(Hall(text)), Book(Hall(text), (NOT,) * 30)):
                refuses(self, OtherHall, other, lambda book: one | book, other)
                refuses(self, OtherHall, one, lambda book: other | book, one)

    def test_or_up_to_thirty_and_more(self):
        one = Book(DUO, (MET,) * 20)
        self.assertEqual((one | Book(DUO, (NOT,) * 10)).sayings, (MET,) * 20 + (NOT,) * 10)
        self.assertEqual((one | Book(DUO, (NOT,) * 10 + (MET,) * 20)).sayings, (MET,) * 20 + (NOT,) * 10)
        for other in (Book(DUO, (NOT,) * 11), Book(DUO, (NOT,) * 11 + (MET,)), Book(DUO, (NOT,) * 30)):
            value = raised(self, Full, lambda book: one | book, other)
            self.assertEqual((value, type(value)), (30, int))
        self.stays(one, DUO, (MET,) * 20)


class SignsTest(BooksTest):
    def test_len(self):
        for many in (0, 1, 2, 30):
            self.assertEqual(len(Book(DUO, (MET,) * many)), many)

    def test_in(self):
        book = Book(DUO, (MET, BEFORE))
        self.assertIs(MET in book, True)
        self.assertIs(BEFORE in book, True)
        for value in [*any_values(), *nearly_sayings(), ("met", "y", "x"), NOT, before("z y-"), list(MET), (MET,)]:
            self.assertIs(value in book, False)
            self.assertIs(value not in book, True)

    def test_for(self):
        sayings = (MET, BEFORE, MET, ("met", "y", "x"))
        self.assertEqual([saying for saying in Book(DUO, sayings)], list(sayings))
        self.assertEqual(list(Book(DUO)), [])
        book = Book(DUO, sayings)
        self.assertEqual([(one, other) for one in book for other in book],
                         [(one, other) for one in sayings for other in sayings])

    def test_equal(self):
        book = Book(DUO, (MET, BEFORE))
        self.assertTrue(book == Book(Hall(DUO.text), (("met", "x", "y"), before("y- z"))))
        self.assertFalse(book != Book(Hall(DUO.text), (MET, BEFORE)))
        for other in (Book(DUO), Book(DUO, (MET,)), Book(DUO, (BEFORE, MET)), Book(DUO, (MET, BEFORE, MET)),
                      Book(DUO, (("met", "y", "x"), BEFORE)), Book(Hall("people x y z"), (MET, BEFORE)),
                      Book(Hall("people x y z\nmet y x"), (MET, BEFORE))):
            self.assertIs(book == other, False)
            self.assertIs(book != other, True)

    def test_equal_to_nothing_else(self):
        book = Book(DUO, (MET,))
        for value in [None, 0, 1, True, "x", (), (MET,), [MET], {}, DUO, MET, ((MET,),), (DUO, (MET,)),
                      nested(tuple, 30)]:
            self.assertIs(book == value, False)
            self.assertIs(value == book, False)
            self.assertIs(book != value, True)

    def test_equal_calls_equal_results(self):
        book = Book(DUO, (MET, BEFORE))
        for _ in range(2):
            self.assertEqual(book + NOT, Book(DUO, (MET, BEFORE, NOT)))
            self.assertEqual(book.without(0), Book(DUO, (BEFORE,)))
            self.assertEqual(book | Book(DUO, (NOT,)), Book(DUO, (MET, BEFORE, NOT)))
            self.assertEqual(book.broken(turned(DUO, LINE)), (1,))

    def test_arguments_are_not_changed(self):
        value = [MET, ["not", "x", "z"]]
        kept = copy.deepcopy(value)
        refuses(self, BadSayings, value, Book, DUO, value)
        self.assertEqual(value, kept)
        refuses(self, BadSaying, value, lambda saying: Book(DUO) + saying, value)
        self.assertEqual(value, kept)


if __name__ == "__main__":
    unittest.main()
