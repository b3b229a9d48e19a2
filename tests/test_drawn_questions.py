"""Points 10 to 13 on drawn halls: beside a going through all timelines, and by a look of the test's own."""

import random
import unittest

from metonce.books import Book
from metonce.clashing import clash, needless, shows_clash
from metonce.errors import BadOrder, NoTimeline
from metonce.halls import Hall
from metonce.judging import judged, shows_judged
from metonce.looking import looks, shows_looks
from metonce.orders import line_of, many, nth, number_of, shows_line_of
from metonce.sayings import contrary
from tests.answers import (claim_holds, clash_is_right, fewest_looks, fits_any, judged_is_right, line_of_is_right,
                           looks_is_right, needless_of, orders_in, orders_of, word_of)
from tests.draws import draw_book, draw_change, draw_claim, draw_line_with_book
from tests.looks import Room, all_cases, left_before, line_holds
from tests.samples import raised
from tests.test_drawn import known_lines


def fitting_lines(book):
    """All timelines that fit the book, found among all timelines of its people."""
    found = []
    for cases in all_cases(book.hall):
        room = Room(book.hall.text, cases)
        told = {("met" if room.meet(one, other) else "not", one, other)
                for one in room.people for other in room.people if one != other}
        wanted = told | set(book.sayings)
        found += [line for line, so, _ in known_lines(tuple(sorted(room.people))) if wanted <= so]
    return found


class AllTimelinesTest(unittest.TestCase):
    """Halls of up to four people, three lines open and six sayings."""

    def books(self, seed):
        source = random.Random(seed)
        return [(source, draw_book(source, people, 3, 6)) for people in (1, 2, 3, 3, 4, 4) for _ in range(40)]

    def test_judged(self):
        words = []
        for source, book in self.books(31):
            if len(book.hall) > 1:
                lines = fitting_lines(book)
                for _ in range(3):
                    words.append(self.judge(book, lines, draw_claim(source, book.hall.people)))
        self.assertGreater(min(words.count(word) for word in ("always", "never", "open", None)), 20)

    def judge(self, book, lines, claim):
        if not lines:
            self.assertIs(raised(self, NoTimeline, judged, book, claim), book)
            return None
        told = judged(book, claim)
        so = {claim_holds(line, claim) for line in lines}
        self.assertEqual(told[0], "open" if len(so) == 2 else "always" if True in so else "never",
                         (book.hall.text, book.sayings, claim))
        self.assertTrue(judged_is_right(book, claim, told))
        self.assertIs(shows_judged(book, claim, told), True)
        return told[0]

    def test_orders(self):
        for source, book in self.books(32):
            wanted = sorted({tuple(sorted(left_before(line))) for line in fitting_lines(book)})
            self.assertEqual(many(book), len(wanted), (book.hall.text, book.sayings))
            found = [nth(book, number) for number in range(len(wanted))]
            self.assertEqual(sorted(found), wanted)
            self.assertEqual([number_of(book, order) for order in found], list(range(len(wanted))))
            for order in found:
                self.assertTrue(line_of_is_right(book, order, line_of(book, order)))
            # An order of any other timeline is none of the book.
            for line, _, order in source.choices(known_lines(tuple(sorted(book.hall.people))), k=6):
                told = tuple(sorted(order))
                if told in wanted:
                    self.assertIs(shows_line_of(book, told, line), line in fitting_lines(book))
                else:
                    self.assertIs(raised(self, BadOrder, number_of, book, told), told)

    def test_needless_and_clash(self):
        words = []
        for _, book in self.books(33):
            told = clash(book)
            words.append(told[0])
            self.assertTrue(clash_is_right(book, told))
            self.assertIs(shows_clash(book, told), True)
            if fitting_lines(book):
                self.assertEqual(told[0], "timeline")
                wanted = [number for number, saying in enumerate(book.sayings)
                          if all(line_holds(line, saying) for line in fitting_lines(book.without(number)))]
                self.assertEqual(needless(book), tuple(wanted), (book.hall.text, book.sayings))
            else:
                self.assertIs(raised(self, NoTimeline, needless, book), book)
                few = [book.sayings[number] for number in told[1]]
                self.assertEqual(fitting_lines(Book(book.hall, tuple(few))), [])
                for place in range(len(few)):
                    self.assertNotEqual(fitting_lines(Book(book.hall, tuple(few[:place] + few[place + 1:]))), [])
        self.assertGreater(min(words.count(word) for word in ("timeline", "least")), 40)

    def test_looks(self):
        for _, book in self.books(34):
            for cases in all_cases(book.hall):
                sayings = [(word, *pair) for word, pair in zip(cases, book.hall.opens)]
                if fitting_lines(Book(book.hall, tuple(sayings))):
                    told = looks(book.hall, cases)
                    self.assertEqual(len(told[0]), fewest_looks(Room(book.hall.text, cases)))
                    self.assertTrue(looks_is_right(book.hall, cases, told))
                    self.assertIs(shows_looks(book.hall, cases, told), True)
                else:
                    self.assertIs(raised(self, NoTimeline, looks, book.hall, cases), cases)


class LookTest(unittest.TestCase):
    """Halls of up to nine people, four lines open and many sayings: what is told is right."""

    def books(self, seed, count=12):
        source = random.Random(seed)
        for people in (5, 6, 7, 8, 9, 9):
            for _ in range(count):
                yield source, draw_line_with_book(source, people, source.randrange(5), source.choice((0, 2, 5, 12)))[1]
                yield source, draw_book(source, people, 4, source.choice((0, 2, 4)))

    def judge(self, book, claim):
        word = word_of(book.hall, book.sayings, claim)
        if word is None:
            self.assertIs(raised(self, NoTimeline, judged, book, claim), book)
            return None
        told = judged(book, claim)
        self.assertEqual(told[0], word, (book.hall.text, book.sayings, claim))
        self.assertTrue(judged_is_right(book, claim, told))
        self.assertIs(shows_judged(book, claim, told), True)
        return word

    def test_judged(self):
        words = [self.judge(book, draw_claim(source, book.hall.people)) for source, book in self.books(35)
                 for _ in range(3)]
        self.assertGreater(min(words.count(word) for word in ("always", "never", "open", None)), 20)

    def test_orders(self):
        seen = 0
        for source, book in self.books(36):
            count = many(book)
            if count <= 300:
                seen += count
                wanted = set(orders_of(book.hall, book.sayings))
                self.assertEqual(count, len(wanted), (book.hall.text, book.sayings))
                found = [nth(book, number) for number in range(min(count, 12))]
                self.assertEqual(len(set(found)), len(found))
                self.assertLessEqual(set(found), wanted)
            for number in {0, count // 2, count - 1} if count else ():
                order = nth(book, number)
                self.assertEqual(number_of(book, order), number)
                line = line_of(book, order)
                self.assertTrue(line_of_is_right(book, order, line))
                self.assertIs(shows_line_of(book, order, line), True)
        self.assertGreater(seen, 500)

    def test_needless_and_clash(self):
        for _, book in self.books(37, 6):
            told = clash(book)
            self.assertTrue(clash_is_right(book, told), (book.hall.text, book.sayings))
            self.assertIs(shows_clash(book, told), True)
            if told[0] == "timeline":
                self.assertEqual(needless(book), needless_of(book), (book.hall.text, book.sayings))
            else:
                self.assertFalse(fits_any(book.hall, book.sayings))

    def test_looks(self):
        for _, book in self.books(38, 6):
            for cases in all_cases(book.hall):
                room = Room(book.hall.text, cases)
                if next(orders_in(room, ()), None) is None:
                    self.assertIs(raised(self, NoTimeline, looks, book.hall, cases), cases)
                else:
                    told = looks(book.hall, cases)
                    self.assertEqual(len(told[0]), fewest_looks(room), (book.hall.text, cases))
                    self.assertTrue(looks_is_right(book.hall, cases, told))
                    self.assertIs(shows_looks(book.hall, cases, told), True)

    def test_nine_people_four_lines_open_and_thirty_sayings(self):
        source = random.Random(39)
        for _ in range(6):
            line, book = draw_line_with_book(source, 9, 4, 30)
            self.assertEqual(len(book), 30)
            for _ in range(4):
                claim = draw_claim(source, book.hall.people)
                self.assertIn(self.judge(book, claim), ("open", "always" if claim_holds(line, claim) else "never"))
            order = tuple(sorted(left_before(line)))
            self.assertEqual(nth(book, number_of(book, order)), order)
            self.assertIs(shows_line_of(book, order, line), True)
            self.assertEqual(needless(book), needless_of(book))
            against = book.without(0) + contrary(book.hall, book.sayings[0])
            told = clash(against)
            self.assertTrue(clash_is_right(against, told))
            self.assertIs(shows_clash(against, told), True)

    def test_halls_in_which_many_orders_are(self):
        for text, count in (("people a b c d e f g h i\nopen a b\nopen c d\nopen e f\nopen g h", None),
                            ("people a b c d e f g h i", 362880), ("people a b c d e f g h i\nmet a b", 40320)):
            book = Book(Hall(text))
            total = many(book)
            self.assertIn(count, (None, total))
            for number in (0, 1, total // 3, total - 1):
                self.assertEqual(number_of(book, nth(book, number)), number)


class ChangedTest(unittest.TestCase):
    """Of changed values the functions tell what the look tells."""

    def setUp(self):
        self.seen = {True: 0, False: 0}

    def same(self, told, wanted, *shown):
        self.assertIs(told, wanted, shown)
        self.seen[wanted] += 1

    def books(self, seed):
        source = random.Random(seed)
        for people in (2, 3, 4, 5, 6, 9):
            for _ in range(15):
                yield source, draw_line_with_book(source, people, 2, source.choice((0, 2, 5)))[1]
                yield source, draw_book(source, people, 2, 6)

    def test_judged(self):
        for source, book in self.books(41):
            claim = draw_claim(source, book.hall.people)
            if clash(book)[0] == "timeline":
                value = judged(book, claim)
                for _ in range(10):
                    changed = draw_change(source, value, book.hall.people)
                    self.same(shows_judged(book, claim, changed), judged_is_right(book, claim, changed), changed)
                other = draw_claim(source, book.hall.people)
                self.same(shows_judged(book, other, value), judged_is_right(book, other, value), value)
        self.assertGreater(min(self.seen.values()), 30)

    def test_clash(self):
        for source, book in self.books(42):
            value = clash(book)
            for _ in range(10):
                changed = draw_change(source, value, book.hall.people)
                self.same(shows_clash(book, changed), clash_is_right(book, changed), changed)
            if len(book) > 1:
                fewer = book.without(0)
                self.same(shows_clash(fewer, value), clash_is_right(fewer, value), value)
        self.assertGreater(min(self.seen.values()), 30)

    def test_looks(self):
        for source, book in self.books(43):
            for cases in all_cases(book.hall):
                if next(orders_in(Room(book.hall.text, cases), ()), None) is not None:
                    value = looks(book.hall, cases)
                    for _ in range(6):
                        changed = draw_change(source, value, book.hall.people)
                        self.same(shows_looks(book.hall, cases, changed), looks_is_right(book.hall, cases, changed),
                                  changed)
        self.assertGreater(min(self.seen.values()), 5)

    def test_orders_and_their_timelines(self):
        for source, book in self.books(44):
            if not 0 < many(book) <= 200:
                continue
            wanted = set(orders_of(book.hall, book.sayings))
            order = nth(book, source.randrange(len(wanted)))
            for _ in range(10):
                changed = draw_change(source, order, book.hall.people)
                if type(changed) is tuple and any(changed == right for right in wanted):
                    self.assertEqual(nth(book, number_of(book, changed)), changed)
                else:
                    self.assertIs(raised(self, BadOrder, number_of, book, changed), changed)
                line = draw_change(source, line_of(book, order), book.hall.people)
                self.same(shows_line_of(book, order, line), line_of_is_right(book, order, line), line)
        self.assertGreater(self.seen[False], 100)


if __name__ == "__main__":
    unittest.main()
