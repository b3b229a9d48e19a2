"""Point 3, (a) to (e), of what sections 10 to 13 tell, on drawn books."""

import random
import unittest

from metonce.books import Book
from metonce.clashing import clash, needless, shows_clash
from metonce.judging import judged, shows_judged
from metonce.looking import looks, shows_looks
from metonce.orders import line_of, many, nth, number_of, shows_line_of
from metonce.possible import possible
from tests.answers import claim_holds
from tests.changes import (book_without, claim_people, renamed, renamed_book, turned_book, turned_claim, turned_judged,
                           turned_order, turned_told)
from tests.draws import draw_book, draw_claim, draw_line_with_book, draw_saying
from tests.looks import all_cases
from tests.samples import renamed_line

FRESH = ("zoe", "yul", "xi", "wim", "val", "ulf", "tom", "sam", "rob")
WORDS = ("met", "not", "in", "out", "before", "open", "people", "said", "heard")


def drawn_books(seed, count=8):
    source = random.Random(seed)
    for people in (2, 3, 4, 5, 6, 7, 9):
        for _ in range(count):
            yield source, draw_line_with_book(source, people, source.randrange(4), source.choice((0, 2, 4, 8)))[1]
            yield source, draw_book(source, people, 2, 5)


def fits(book):
    return possible(book)[0] == "timeline"


def some_orders(source, book):
    count = many(book)
    return [nth(book, source.randrange(count)) for _ in range(3)] if count else []


class AllTimelinesTest(unittest.TestCase):
    def test_what_is_always_or_never_so(self):
        source = random.Random(51)
        for people in (5, 7, 9):
            for _ in range(12):
                line, book = draw_line_with_book(source, people, 3, 6)
                for _ in range(4):
                    claim = draw_claim(source, book.hall.people)
                    word = judged(book, claim)[0]
                    for order in some_orders(source, book):
                        so = claim_holds(line_of(book, order), claim)
                        self.assertNotEqual(word, "never" if so else "always")
                    self.assertNotEqual(word, "never" if claim_holds(line, claim) else "always")


class BackwardTest(unittest.TestCase):
    def test_claims(self):
        for source, book in drawn_books(52):
            back = turned_book(book)
            self.assertEqual(fits(back), fits(book))
            if fits(book):
                for _ in range(4):
                    claim = draw_claim(source, book.hall.people)
                    told = judged(book, claim)
                    self.assertEqual(judged(back, turned_claim(claim))[0], told[0])
                    self.assertIs(shows_judged(back, turned_claim(claim), turned_judged(book, claim, told)), True)

    def test_orders(self):
        for source, book in drawn_books(53):
            back = turned_book(book)
            self.assertEqual(many(back), many(book))
            for order in some_orders(source, book):
                turned = turned_order(order)
                self.assertEqual(nth(back, number_of(back, turned)), turned)
                line = turned_told(("timeline", line_of(book, order)))[1]
                self.assertIs(shows_line_of(back, turned, line), True)

    def test_needless_and_clash(self):
        for _, book in drawn_books(54):
            back = turned_book(book)
            told = clash(book)
            self.assertEqual(clash(back)[0], told[0])
            if fits(book):
                self.assertEqual(needless(back), needless(book))
                self.assertIs(shows_clash(back, turned_told(told)), True)
            else:
                self.assertIs(shows_clash(back, ("least", told[1], turned_told(told[2]))), True)


class MoreHeardTest(unittest.TestCase):
    def test_what_was_always_or_never_so_stays(self):
        settled = 0
        for source, book in drawn_books(55):
            if len(book) < 30 and fits(book):
                more = book + draw_saying(source, book.hall.people)
                self.assertLessEqual(many(more), many(book))
                for _ in range(4):
                    claim = draw_claim(source, book.hall.people)
                    word = judged(book, claim)[0]
                    if fits(more) and word != "open":
                        self.assertEqual(judged(more, claim)[0], word)
                        settled += 1
                for order in some_orders(source, more):
                    self.assertEqual(nth(book, number_of(book, order)), order)
        self.assertGreater(settled, 50)


class NamesTest(unittest.TestCase):
    def books(self, seed, words):
        for source, book in drawn_books(seed):
            fresh = source.sample(words, len(book.hall))
            names = dict(zip(book.hall.people, fresh))
            yield source, book, names, renamed_book(book, names, source.sample(fresh, len(fresh)))

    def test_the_same_is_told(self):
        for words in (FRESH, WORDS):
            for source, book, names, other in self.books(56, words):
                self.assertEqual((many(other), clash(other)[0]), (many(book), clash(book)[0]))
                for order in some_orders(source, book):
                    fresh = tuple(sorted(renamed(order, names)))
                    self.assertEqual(nth(other, number_of(other, fresh)), fresh)
                    self.assertIs(shows_line_of(other, fresh, renamed_line(line_of(book, order), names)), True)
                if fits(book):
                    self.assertEqual(needless(other), needless(book))
                    for _ in range(3):
                        claim = draw_claim(source, book.hall.people)
                        self.assertEqual(judged(other, renamed(claim, names))[0], judged(book, claim)[0])

    def test_what_shows_it_is_right_by_other_names(self):
        for source, book, names, other in self.books(57, FRESH):
            self.assertIs(shows_clash(other, renamed(clash(book), names)), True)
            if fits(book):
                claim = draw_claim(source, book.hall.people)
                self.assertIs(shows_judged(other, renamed(claim, names), renamed(judged(book, claim), names)), True)

    def test_looks(self):
        for _, book, names, other in self.books(58, FRESH):
            for cases in all_cases(book.hall):
                sayings = tuple((word, *pair) for word, pair in zip(cases, book.hall.opens))
                if fits(Book(book.hall, sayings)):
                    groups, apart = looks(book.hall, cases)
                    self.assertEqual(len(looks(other.hall, cases)[0]), len(groups))
                    moved = [tuple(name for name in other.hall.people if name in renamed(told, names))
                             for told in (*groups, apart)]
                    self.assertIs(shows_looks(other.hall, cases, (tuple(moved[:-1]), moved[-1])), True)


class OnePersonLessTest(unittest.TestCase):
    def test_what_is_always_or_never_so_without_somebody(self):
        settled = 0
        for source, book in drawn_books(59):
            if len(book.hall) < 3 or not fits(book):
                continue
            for name in source.sample(book.hall.people, 3):
                fewer = book_without(book, name)
                self.assertTrue(fits(fewer))
                claim = draw_claim(source, fewer.hall.people)
                self.assertNotIn(name, claim_people(claim))
                word = judged(fewer, claim)[0]
                if word != "open":
                    self.assertEqual(judged(book, claim)[0], word)
                    settled += 1
        self.assertGreater(settled, 30)


if __name__ == "__main__":
    unittest.main()
