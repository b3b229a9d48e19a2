"""Point 14, with what point 2 says of it."""

import copy
import random
import unittest

from metonce.books import Book
from metonce.choosing import cheapest
from metonce.errors import BadOffers, BadWishes
from metonce.halls import Hall
from metonce.looking import looks, shows_looks
from tests.answers import cheapest_of, claim_holds
from tests.draws import draw_book, draw_claim, draw_line_with_book, draw_saying
from tests.samples import DUO, any_values, before, nearly_sayings, nested, refuses
from tests.test_cases import FOUR, HALL, HEARD, NET, WRONG
from tests.test_drawn_questions import fitting_lines
from tests.test_judging import CLAIMS, nearly_claims

MET = ("met", "cyd", "dan")
NOT = ("not", "cyd", "dan")
APART = Hall("people a b c")
OFFERS = ((before("x y"), 4), (before("x- y-"), 1), (("met", "x", "z"), 2))
WISHES = ((before("x y"), "always"),)


class ChoosingTest(unittest.TestCase):
    def tells(self, book, offers, wishes, *wanted):
        """What cheapest tells is just this, and what the tests' own answer is."""
        self.assertEqual(cheapest(book, offers, wishes), wanted)
        self.assertEqual(cheapest_of(book.hall, book.sayings, offers, wishes), wanted)


class DocumentTest(ChoosingTest):
    def test_the_example(self):
        self.assertEqual(
            cheapest(HEARD, ((("met", "cyd", "dan"), 3), (("not", "cyd", "dan"), 2)),
                     ((("before", ("ann", "out"), ("dan", "in")), "always"),)),
            ("choice", 3, ((("met", "cyd", "dan"), 3),), (((), 0, "open"), (((("not", "cyd", "dan"), 2),), 0, "open"))))
        self.assertEqual(
            [len(looks(HALL, ("not",))[0]), shows_looks(HALL, ("met",),
                                                        ((("ann", "bob"), ("cyd", "dan")), ("ann", "cyd")))],
            [3, True])

    def test_by_names(self):
        told = cheapest(wishes=WISHES, offers=OFFERS, book=Book(DUO))
        self.assertEqual(told, cheapest(Book(DUO), OFFERS, WISHES))

    def test_the_function_stands_in_its_file(self):
        self.assertEqual(cheapest.__module__, "metonce.choosing")


class OffersTest(ChoosingTest):
    def refused(self, *values):
        for book in (Book(DUO), Book(DUO, (("not", "x", "y"),)), Book(DUO, (("met", "x", "y"),) * 30)):
            for value in values:
                refuses(self, BadOffers, value, cheapest, book, value, WISHES)
                refuses(self, BadOffers, value, cheapest, book, value, ())

    def test_any_value(self):
        for value in any_values():
            self.refused(value, (value,), [value], (*OFFERS, value), (value, OFFERS[0]), ((value, 1),),
                         ((OFFERS[0][0], value, 1),))
            if type(value) is not int or value not in (1, 2):
                self.refused(((OFFERS[0][0], value),))

    def test_nearly_sayings(self):
        for value in [*nearly_sayings(), ("there", ("x", "in"), "y"), ("within", "x", "y")]:
            self.refused(((value, 1),), (value, 1))

    def test_prices(self):
        saying = before("x y")
        for price in (0, -1, 10, 11, 10 ** 11, True, False, None, "1", (1,), [1], "", Book(DUO)):
            self.refused(((saying, price),), ((saying, 1), (before("x z"), price)))
        for price in range(1, 10):
            self.tells(Book(DUO), ((saying, price),), WISHES, "choice", price, ((saying, price),), (((), 0, "open"),))

    def test_how_many(self):
        offers = tuple(sorted((before(words), 1) for words in ("x y", "x- y-", "x z", "x- z-", "z x")))
        self.refused((), offers, offers * 2, list(offers[:4]))
        for count in range(1, 5):
            self.assertEqual(cheapest(Book(DUO), offers[:count], WISHES)[0], "choice")

    def test_ascending(self):
        self.refused(OFFERS[::-1], (OFFERS[1], OFFERS[0]), (OFFERS[0], OFFERS[2], OFFERS[1]), (OFFERS[0], OFFERS[0]))
        self.refused(((before("x y"), 1), (before("x y"), 2)), ((before("x y"), 2), (before("x y"), 1)))
        self.refused(((("met", "x", "y"), 1), (("met", "x", "y"), 2)),
                     ((("met", "x", "y"), 1), (("met", "x", "z"), 1), (("met", "x", "z"), 3)))

    def test_met_either_way_about_are_two(self):
        offers = ((("met", "cyd", "dan"), 3), (("met", "dan", "cyd"), 2))
        self.tells(HEARD, offers, ((MET, "always"),), "choice", 2, offers[1:], (((), 0, "open"),))
        self.tells(HEARD, offers, ((MET, "never"),), "none",
                   (((), 0, "open"), (offers[1:], 0, "always"), (offers[:1], 0, "always"), (offers, 0, "always")))
        self.refused(offers[::-1])

    def test_the_form_of_offers(self):
        saying, price = OFFERS[0]
        self.refused((saying, price), ((price, saying),), ([saying, price],), ((saying, price, 1),), ((saying,),),
                     (saying,), {saying: price}, (((saying, price),),), ((list(saying), price),), [OFFERS[0]],
                     nested(tuple, 30), nested(list, 30))

    def test_offers_of_another_hall(self):
        refuses(self, BadOffers, OFFERS, cheapest, HEARD, OFFERS, ((MET, "always"),))
        refuses(self, BadOffers, OFFERS, cheapest, Book(Hall("people x")), OFFERS, WISHES)


class WishesTest(ChoosingTest):
    def refused(self, *values):
        for book in (Book(DUO), Book(DUO, (("not", "x", "y"),)), Book(DUO, (("met", "x", "y"),) * 30)):
            for value in values:
                refuses(self, BadWishes, value, cheapest, book, OFFERS, value)

    def test_any_value(self):
        for value in any_values():
            self.refused(value, (value,), [value], (*WISHES, value), ((value, "always"),), ((before("x y"), value),),
                         ((before("x y"), "always", value),), (value, WISHES[0]))

    def test_nearly_claims(self):
        for value in [*nearly_sayings(), *nearly_claims()]:
            if value not in CLAIMS:
                self.refused(((value, "open"),), (WISHES[0], (value, "never")))

    def test_words(self):
        for word in ("Always", "always ", "so", "", "met", None, True, 1, ("always",), ["open"], "opens", "none"):
            self.refused(((before("x y"), word),), ((before("x y"), "open"), (before("x y"), word)))

    def test_how_many(self):
        self.refused((), WISHES * 4, list(WISHES), [*WISHES])
        for count in (1, 2, 3):
            self.tells(Book(DUO), OFFERS[:1], WISHES * count, "choice", 4, OFFERS[:1], (((), 0, "open"),))

    def test_the_form_of_wishes(self):
        claim = before("x y")
        self.refused((claim, "always"), (("always", claim),), ([claim, "always"],), ((claim,),), (claim,), (WISHES,),
                     {claim: "always"}, ((list(claim), "always"),), nested(tuple, 30), nested(list, 30))

    def test_offers_come_first(self):
        for offers in ((), OFFERS[::-1], list(OFFERS), None):
            for wishes in ((), WISHES * 4, None):
                refuses(self, BadOffers, offers, cheapest, Book(DUO), offers, wishes)

    def test_all_claims_can_be_wished(self):
        for claim in CLAIMS:
            for word in ("always", "never", "open"):
                wishes = ((claim, word),)
                self.assertEqual(cheapest(Book(DUO), OFFERS[:2], wishes), cheapest_of(DUO, (), OFFERS[:2], wishes))


class CheapestTest(ChoosingTest):
    def test_nothing_need_be_said(self):
        self.tells(HEARD, ((MET, 3),), ((before("bob cyd"), "always"),), "choice", 0, (), ())
        self.tells(HEARD, ((MET, 3),), ((MET, "open"), (("within", "cyd", "ann"), "never")), "choice", 0, (), ())

    def test_in_sequence_by_price_then_number_then_as_tuples(self):
        offers = tuple(sorted([(before("a b"), 2), (before("a c"), 1), (before("b c"), 3), (before("a- b-"), 1)]))
        wishes = ((before("c a"), "always"),)
        told = cheapest(Book(APART), offers, wishes)
        self.assertEqual(told, cheapest_of(APART, (), offers, wishes))
        choices = [reason[0] for reason in told[1]]
        self.assertEqual(len(choices), 16)
        self.assertEqual([sum(price for _, price in choice) for choice in choices],
                         [0, 1, 1, 2, 2, 3, 3, 3, 4, 4, 4, 5, 5, 6, 6, 7])
        self.assertEqual([len(choice) for choice in choices], [0, 1, 1, 1, 2, 1, 2, 2, 2, 2, 3, 2, 3, 3, 3, 4])
        self.assertEqual(choices[1:5], [offers[1:2], offers[2:3], offers[:1], offers[1:3]])
        self.assertEqual([price for _, price in offers], [2, 1, 1, 3])

    def test_the_cheapest_one_not_the_shortest_one(self):
        offers = tuple(sorted([(before("a- c"), 9), (before("a- b"), 4), (before("b- c"), 4)]))
        wishes = ((before("a c"), "always"),)
        told = cheapest(Book(APART), offers, wishes)
        self.assertEqual((told[:2], len(told[2])), (("choice", 8), 2))
        dear = tuple(sorted([(before("a- c"), 8), (before("a- b"), 4), (before("b- c"), 4)]))
        told = cheapest(Book(APART), dear, wishes)
        self.assertEqual(told[:3], ("choice", 8, ((before("a- c"), 8),)))

    def test_the_number_of_the_first_wish_that_does_not_come_true(self):
        offers = ((before("a b"), 1), (before("b c"), 1))
        wishes = ((before("c a"), "open"), (before("a b"), "always"), (before("a c"), "always"))
        self.tells(Book(APART), offers, wishes, "none",
                   (((), 1, "open"), (offers[:1], 2, "open"), (offers[1:], 1, "open"), (offers, 0, "never")))
        self.tells(Book(APART), offers, wishes[1:], "choice", 2, offers,
                   (((), 0, "open"), (offers[:1], 1, "open"), (offers[1:], 0, "open")))

    def test_never_and_open(self):
        offers = ((before("a b"), 1), (before("b a"), 1))
        self.tells(Book(APART), offers, ((before("a b"), "never"),), "choice", 1, offers[1:],
                   (((), 0, "open"), (offers[:1], 0, "always")))
        self.tells(Book(APART), offers, ((before("a b"), "open"),), "choice", 0, (), ())
        self.tells(Book(APART, (before("a b"),)), offers, ((before("a c"), "always"),), "none",
                   (((), 0, "open"), (offers[:1], 0, "open")))

    def test_choices_that_no_timeline_fits_do_not_count(self):
        offers = tuple(sorted([(("met", "x", "z"), 1), (before("z x"), 2)]))
        wishes = ((before("z y"), "always"),)
        self.tells(Book(DUO), offers, wishes, "choice", 2, offers[:1], (((), 0, "open"),))
        self.tells(Book(DUO), ((("met", "x", "z"), 1),), wishes, "none", (((), 0, "open"),))

    def test_books_that_no_timeline_fits(self):
        self.tells(FOUR, ((before("a b"), 1),), ((before("a b"), "always"),), "none", ())
        self.tells(WRONG, ((MET, 1), (NOT, 2)), ((MET, "open"),), "none", ())
        self.tells(Book(Hall(NET)), ((before("a b"), 1),), ((before("a b"), "never"),), "none", ())

    def test_more_than_thirty_sayings(self):
        offers = ((before("a b"), 1), (before("b c"), 1))
        wishes = ((before("a c"), "always"),)
        full = Book(APART, (("not", "a", "b"),) * 29)
        self.tells(full, offers, wishes, "none", (((), 0, "open"), (offers[:1], 0, "open"), (offers[1:], 0, "open")))
        self.tells(full.without(0), offers, wishes, "choice", 2, offers,
                   (((), 0, "open"), (offers[:1], 0, "open"), (offers[1:], 0, "open")))
        self.tells(full + before("a- c"), offers, wishes, "choice", 0, (), ())
        self.tells(full + ("not", "a", "b"), offers, wishes, "none", (((), 0, "open"),))

    def test_a_saying_that_the_book_has_is_one_more(self):
        full = Book(APART, (before("a b"),) * 30)
        self.tells(full, ((before("a b"), 1),), ((before("a c"), "always"),), "none", (((), 0, "open"),))
        self.tells(full.without(0), ((before("a b"), 1),), ((before("a c"), "always"),), "none",
                   (((), 0, "open"), (((before("a b"), 1),), 0, "open")))

    def test_one_person_has_no_offers(self):
        for offers in ((), ((("met", "a", "a"), 1),)):
            refuses(self, BadOffers, offers, cheapest, Book(Hall("people a")), offers, ())

    def test_arguments_are_not_changed(self):
        offers = [[["met", "x", "z"], 1]]
        kept = copy.deepcopy(offers)
        refuses(self, BadOffers, offers, cheapest, Book(DUO), offers, WISHES)
        self.assertEqual(offers, kept)
        wishes = [[["met", "x", "z"], "always"]]
        kept = copy.deepcopy(wishes)
        refuses(self, BadWishes, wishes, cheapest, Book(DUO), OFFERS, wishes)
        self.assertEqual(wishes, kept)

    def test_equal_calls_equal_results(self):
        book, twin = Book(DUO, (before("x z"),)), Book(Hall(DUO.text), (before("x z"),))
        for _ in range(2):
            self.assertEqual(cheapest(book, OFFERS, WISHES), cheapest(twin, tuple(list(OFFERS)), tuple(list(WISHES))))
        self.assertEqual(book, twin)


class DrawnTest(unittest.TestCase):
    def draw(self, source, people):
        offers = {draw_saying(source, people): source.randrange(1, 10) for _ in range(source.randrange(1, 5))}
        wishes = [(draw_claim(source, people), source.choice(("always", "never", "open", "always", "never")))
                  for _ in range(source.choice((1, 1, 2, 3)))]
        return tuple(sorted(offers.items())), tuple(wishes)

    def word_by_lines(self, hall, sayings, claim):
        so = {claim_holds(line, claim) for line in fitting_lines(Book(hall, sayings))}
        return {(): None, (True,): "always", (False,): "never", (False, True): "open"}[tuple(sorted(so))]

    def test_beside_all_timelines(self):
        source = random.Random(61)
        words = []
        for people in (2, 3, 3, 4):
            for number in range(30):
                book = draw_book(source, people, 3, 4)
                if number % 3:
                    book = draw_line_with_book(source, people, 3, 2)[1]
                offers, wishes = self.draw(source, book.hall.people)
                told = cheapest(book, offers, wishes)
                self.assertEqual(told, cheapest_of(book.hall, book.sayings, offers, wishes, self.word_by_lines),
                                 (book.hall.text, book.sayings, offers, wishes))
                words.append(told[0])
        self.assertGreater(min(words.count(word) for word in ("choice", "none")), 10)

    def test_up_to_nine_people(self):
        source = random.Random(62)
        words = []
        for people in (5, 7, 9, 9):
            for _ in range(12):
                _, book = draw_line_with_book(source, people, 4, source.choice((0, 5, 28)))
                offers, wishes = self.draw(source, book.hall.people)
                told = cheapest(book, offers, wishes)
                self.assertEqual(told, cheapest_of(book.hall, book.sayings, offers, wishes),
                                 (book.hall.text, book.sayings, offers, wishes))
                words.append(told[0])
        self.assertGreater(min(words.count(word) for word in ("choice", "none")), 5)


if __name__ == "__main__":
    unittest.main()
