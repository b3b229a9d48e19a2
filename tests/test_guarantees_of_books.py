"""Point 3, (a) to (e), of what sections 6 to 9 tell, on drawn books."""

import random
import unittest

from metonce.books import Book
from metonce.cases import barred, shows_barred, sure
from metonce.halls import Hall
from metonce.possible import possible, shows_possible, surely, suspects
from metonce.sayings import contrary, is_so
from metonce.timelines import order_of, turned
from tests.changes import book_without, renamed, renamed_book, turned_saying, turned_told
from tests.draws import draw_book, draw_saying
from tests.looks import all_cases
from tests.samples import all_sayings, all_timelines, renamed_line

TRIO = ("x", "y", "z")


def drawn_books(seed, many=12, opens=3, sayings=6):
    source = random.Random(seed)
    return [draw_book(source, people, opens, sayings) for people in (2, 3, 4, 5, 6, 7, 9) for _ in range(many)]


def surely_or_none(book):
    """What surely tells, None if no timeline fits."""
    return surely(book) if possible(book)[0] == "timeline" else None


class AllTimelinesTest(unittest.TestCase):
    def test_what_is_always_or_never_so(self):
        source = random.Random(21)
        for people in (2, 3, 3):
            for _ in range(20):
                book = draw_book(source, people, 2, 3)
                orders = [order_of(book.hall, line) for line in all_timelines(book.hall.people) if book.fits(line)]
                pairs = surely_or_none(book)
                self.assertEqual(pairs is None, orders == [])
                for one in book.hall.people:
                    for other in book.hall.people:
                        if pairs is not None:
                            self.assertEqual((one, other) in pairs, all((one, other) in order for order in orders))

    def test_what_is_sure_is_so_where_a_timeline_is_shown(self):
        for book in drawn_books(22):
            told = possible(book)
            if told[0] == "timeline":
                self.assertLessEqual(set(surely(book)), set(order_of(book.hall, told[1])))
            for cases in all_cases(book.hall):
                shown = barred(book, cases)
                if shown[0] == "timeline":
                    self.assertLessEqual(set(sure(book, cases)), set(order_of(book.hall, shown[1])))


class BackwardTest(unittest.TestCase):
    def test_sayings_and_books(self):
        hall = Hall("people x y z\nmet x y\nopen y z")
        for saying in all_sayings(TRIO):
            self.assertEqual(contrary(hall, turned_saying(saying)), turned_saying(contrary(hall, saying)))
            book, back = Book(hall, (saying,)), Book(hall, (turned_saying(saying),))
            for line in all_timelines(TRIO)[::5]:
                other = turned(hall, line)
                self.assertIs(is_so(hall, other, turned_saying(saying)), is_so(hall, line, saying))
                self.assertEqual(back.broken(other), book.broken(line))
                self.assertIs(back.fits(other), book.fits(line))

    def test_what_follows(self):
        for book in drawn_books(23):
            back = Book(book.hall, tuple(turned_saying(saying) for saying in book.sayings))
            for cases in all_cases(book.hall):
                told, other = barred(book, cases), barred(back, cases)
                self.assertEqual(told[0] == "timeline", other[0] == "timeline")
                self.assertIs(shows_barred(back, cases, turned_told(told)), True)
                self.assertIs(shows_barred(book, cases, turned_told(other)), True)
                if told[0] == "timeline":
                    self.assertEqual(sure(back, cases), tuple(sorted((y, x) for x, y in sure(book, cases))))
            self.assertEqual(possible(book)[0], possible(back)[0])
            self.assertIs(shows_possible(back, turned_told(possible(book))), True)
            pairs = surely_or_none(book)
            self.assertEqual(surely_or_none(back), pairs and tuple(sorted((y, x) for x, y in pairs)))


class MoreHeardTest(unittest.TestCase):
    def test_what_was_sure_stays_so(self):
        source = random.Random(24)
        grown = 0
        for book in drawn_books(24, sayings=4):
            saying = draw_saying(source, book.hall.people)
            fewer, more = surely_or_none(book), surely_or_none(book + saying)
            if more is not None:
                self.assertIsNotNone(fewer)
                self.assertLessEqual(set(fewer), set(more))
                grown += len(more) > len(fewer)
            for cases in all_cases(book.hall):
                if barred(book + saying, cases)[0] == "timeline":
                    self.assertLessEqual(set(sure(book, cases)), set(sure(book + saying, cases)))
                else:
                    # A bar stays one when more is heard.
                    self.assertTrue(barred(book, cases)[0] == "timeline"
                                    or shows_barred(book + saying, cases, barred(book, cases)))
        self.assertGreater(grown, 5)


class NamesTest(unittest.TestCase):
    def test_the_same_is_told(self):
        source = random.Random(25)
        for book in drawn_books(25, many=8):
            fresh = source.sample(("met", "not", "in", "out", "before", "open", "people", "said", "rows"),
                                  len(book.hall))
            names = dict(zip(book.hall.people, fresh))
            other = renamed_book(book, names, source.sample(fresh, len(fresh)))
            for cases in all_cases(book.hall):
                told = barred(book, cases)
                self.assertEqual(barred(other, cases)[0] == "timeline", told[0] == "timeline")
                if told[0] == "timeline":
                    self.assertEqual(sure(other, cases), tuple(sorted(renamed(sure(book, cases), names))))
                    self.assertIs(shows_barred(other, cases, ("timeline", renamed_line(told[1], names))), True)
            self.assertEqual(possible(book)[0], possible(other)[0])
            pairs = surely_or_none(book)
            self.assertEqual(surely_or_none(other), pairs and tuple(sorted(renamed(pairs, names))))
            left = [names[name] for name in suspects(book.hall)]
            self.assertEqual(suspects(other.hall), tuple(name for name in other.hall.people if name in left))

    def test_bars_and_trees_are_right_by_other_names(self):
        source = random.Random(26)
        for book in drawn_books(26, many=8, sayings=8):
            # Names that are no words of bars, so that a name is put for a name only.
            fresh = source.sample(("zoe", "yul", "xi", "wim", "val", "ulf", "tom", "sam", "rob"), len(book.hall))
            names = dict(zip(book.hall.people, fresh))
            other = renamed_book(book, names, source.sample(fresh, len(fresh)))
            self.assertIs(shows_possible(other, renamed(possible(book), names)), True)
            for cases in all_cases(book.hall):
                self.assertIs(shows_barred(other, cases, renamed(barred(book, cases), names)), True)


class OnePersonLessTest(unittest.TestCase):
    def test_what_is_sure_without_somebody_is_sure(self):
        told = 0
        for book in drawn_books(27, opens=2, sayings=5):
            pairs = surely_or_none(book)
            if pairs is None:
                continue
            for name in book.hall.people:
                fewer = surely_or_none(book_without(book, name))
                self.assertIsNotNone(fewer)
                self.assertLessEqual(set(fewer), set(pairs))
                told += len(fewer)
        self.assertGreater(told, 20)

    def test_everybody_is_suspect_where_a_timeline_keeps_the_hall(self):
        for book in drawn_books(28, sayings=0):
            if possible(book)[0] == "timeline":
                self.assertEqual(suspects(book.hall), book.hall.people)


if __name__ == "__main__":
    unittest.main()
