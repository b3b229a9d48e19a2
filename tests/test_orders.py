"""Point 11, with what point 2 says of it."""

import unittest
from itertools import permutations

from metonce.books import Book
from metonce.errors import BadNumber, BadOrder
from metonce.halls import Hall
from metonce.orders import line_of, many, nth, number_of, shows_line_of
from tests.answers import line_of_is_right, orders_of
from tests.looks import left_before
from tests.samples import DUO, LINE, all_timelines, any_values, before, nested, refuses
from tests.samples import line_of as told_line
from tests.test_cases import FOUR, HALL, HEARD, NET, WRONG, ring_hall

NINE = Book(Hall("people a b c d e f g h i"))
ALL_MET = Book(Hall("people a b c d e f g h i\nmet a b c d e f g h i"))
ONE = Book(Hall("people a"))
PATH = Book(Hall("people a b c d\nmet a b\nmet b c\nmet c d"))
PATH_ORDER = (("a", "c"), ("a", "d"), ("b", "d"))
FACTORIALS = (1, 2, 6, 24, 120, 720, 5040, 40320, 362880)


def turned_order(order):
    return tuple(sorted((other, one) for one, other in order))


class OrdersTest(unittest.TestCase):
    def look(self, book):
        """All orders are had, each once, by its number, with a timeline; gives how many there are."""
        wanted = sorted(orders_of(book.hall, book.sayings))
        count = many(book)
        self.assertEqual((count, type(count)), (len(wanted), int), (book.hall.text, book.sayings))
        found = [nth(book, number) for number in range(count)]
        self.assertEqual(sorted(found), wanted)
        for number, order in enumerate(found):
            told = number_of(book, order)
            self.assertEqual((told, type(told)), (number, int))
            self.shows(book, order, line_of(book, order))
        return count

    def shows(self, book, order, *values):
        for value in values:
            self.assertIs(line_of_is_right(book, order, value), True, value)
            self.assertIs(shows_line_of(book, order, value), True, value)

    def denies(self, book, order, *values):
        for value in values:
            self.assertIs(shows_line_of(book, order, value), False, value)

    def no_number(self, book, *values):
        for value in values:
            refuses(self, BadNumber, value, nth, book, value)

    def no_order(self, book, *values):
        for value in values:
            refuses(self, BadOrder, value, number_of, book, value)
            refuses(self, BadOrder, value, line_of, book, value)
            refuses(self, BadOrder, value, shows_line_of, book, value, LINE)


class DocumentTest(OrdersTest):
    def test_the_example(self):
        alone = Hall("people a b c d")
        self.assertEqual(
            [many(Book(alone)), many(Book(alone, (("before", ("a", "in"), ("b", "in")),))), many(HEARD), many(FOUR),
             nth(Book(DUO), number_of(Book(DUO), (("x", "z"), ("y", "z"))))],
            [24, 12, 3, 0, (("x", "z"), ("y", "z"))])

    def test_by_names(self):
        order = nth(number=1, book=HEARD)
        self.assertEqual(order, nth(HEARD, 1))
        self.assertEqual(number_of(order=order, book=HEARD), 1)
        self.assertEqual(line_of(order=order, book=HEARD), line_of(HEARD, order))
        self.assertIs(shows_line_of(value=line_of(HEARD, order), order=order, book=HEARD), True)
        self.assertEqual(many(book=HEARD), 3)

    def test_functions_stand_in_their_file(self):
        for function in (many, nth, number_of, line_of, shows_line_of):
            self.assertEqual(function.__module__, "metonce.orders")


class ManyTest(OrdersTest):
    def test_one_person_and_all_who_met(self):
        for book in (ONE, ALL_MET, Book(Hall("people a b\nmet b a"))):
            self.assertEqual(many(book), 1)
            self.assertEqual(nth(book, 0), ())
            self.assertEqual(number_of(book, ()), 0)
            self.shows(book, (), line_of(book, ()))

    def test_nobody_met_anybody(self):
        for count, wanted in enumerate(FACTORIALS, 1):
            self.assertEqual(many(Book(Hall("people " + " ".join("abcdefghi"[:count])))), wanted)
        for count in range(1, 5):
            self.look(Book(Hall("people " + " ".join("abcd"[:count]))))

    def test_who_hang_together_turn_together(self):
        for book, count in ((PATH, 2), (PATH + before("a d"), 1), (PATH + before("b a"), 2),
                            (PATH + before("b- c-"), 1),
                            (Book(Hall("people a b c\nmet a b\nmet b c")), 2), (Book(DUO), 2), (Book(HALL), 6)):
            self.assertEqual(self.look(book), count)

    def test_groups_within_groups(self):
        for text, count in (
                ("people a b c d e\nmet a b e\nmet b c e\nmet c d e", 2),
                ("people a b c d e f g h\nmet a b\nmet b c\nmet c d\nmet e f\nmet f g\nmet g h", 8),
                ("people a b c d e f\nmet a b\nmet b c f\nmet c d", 4),
                ("people a b c d e f g\nmet a b g\nmet c d g\nmet e g\nmet f g", 24),
                ("people a b c d m\nmet m a\nmet m b\nmet m c\nmet m d", 24),
                ("people m a b n c d\nmet m a\nmet m b\nmet n c\nmet n d\nmet m n", 8)):
            self.assertEqual(self.look(Book(Hall(text))), count, text)

    def test_a_group_within_what_turns(self):
        # b stands for two who did not meet and met the same others: they have two sequences, however all turn.
        book = Book(Hall("people a b c d e\nmet a b\nmet b c\nmet c d\nmet e d"))
        self.assertEqual(self.look(book), 2)
        twins = Book(Hall("people x y b c d\nmet x b\nmet y b\nmet b c\nmet c d"))
        self.assertEqual(self.look(twins), 4)
        self.assertEqual(self.look(twins + before("x y")), 2)
        self.assertEqual(self.look(twins + before("x d")), 2)
        self.assertEqual(self.look(twins + before("x d") + before("y- x-")), 1)

    def test_cases_are_told_apart(self):
        self.assertEqual(self.look(Book(Hall("people a b\nopen a b"))), 3)
        self.assertEqual(self.look(Book(Hall("people a b c\nopen a b\nopen b c\nopen a c"))), 19)
        self.assertEqual(self.look(Book(Hall("people a b c d\nmet a b\nmet b c\nmet c d\nopen a d\nopen a c"))), 6)
        self.assertEqual(self.look(HEARD + ("met", "cyd", "dan")), 1)
        self.assertEqual(self.look(HEARD + ("not", "cyd", "dan")), 2)

    def test_what_is_said(self):
        for sayings, count in (((), 24), (("a b",), 12), (("a b", "b c"), 4), (("a b", "b c", "c d"), 1),
                               (("a b", "c d"), 6), (("a b", "a c", "a d"), 6), (("a b-", "c- d-", "a b"), 6)):
            self.assertEqual(self.look(Book(Hall("people a b c d"), tuple(before(words) for words in sayings))), count)

    def test_no_timeline(self):
        for book in (FOUR, WRONG, Book(Hall(NET)), Book(ring_hall(9)), Book(DUO, (("not", "x", "y"),)),
                     Book(DUO, (before("x y"), before("y x"))), Book(DUO, (before("x- y"),))):
            count = many(book)
            self.assertEqual((count, type(count)), (0, int))
            self.no_number(book, 0, 1, -1, True, False)
            self.no_order(book, (), (("x", "z"), ("y", "z")), PATH_ORDER)

    def test_all_halls_of_four(self):
        pairs = ("a b", "a c", "a d", "b c", "b d", "c d")
        for number in range(64):
            met = [f"met {pair}" for at, pair in enumerate(pairs) if number >> at & 1]
            self.look(Book(Hall("\n".join(["people c a d b", *met]))))

    def test_all_timelines_of_three(self):
        for text in ("people x y z\nopen x y\nopen z x", "people x y z\nopen y z", "people z y x\nmet y x\nopen x z"):
            for sayings in ((), (before("x z"),), (before("y- x-"), ("not", "x", "z")),
                            (before("x y-"), before("z y"))):
                book = Book(Hall(text), sayings)
                wanted = {tuple(sorted(left_before(line))) for line in all_timelines(("x", "y",
                                                                                      "z")) if book.fits(line)}
                self.assertEqual({nth(book, number) for number in range(many(book))}, wanted)


class NumbersTest(OrdersTest):
    def test_the_first_and_the_last_one(self):
        for book in (NINE, PATH, HEARD, NINE + before("c b") + before("i a-"), ONE):
            count = many(book)
            found = [nth(book, number) for number in (0, count // 2, count - 1)]
            self.assertEqual([number_of(book, order) for order in found], [0, count // 2, count - 1])
            self.no_number(book, count, count + 1, -1, -count, True, False, None, "0", 0.5 and (0,), [0], 10 ** 11)

    def test_nine_people_who_did_not_meet(self):
        seen = set()
        for row in ("abcdefghi", "ihgfedcba", "bacdefghi", "eabcdfghi", "abcdefgih", "idabcefgh"):
            order = tuple(sorted((one, other) for at, one in enumerate(row) for other in row[at + 1:]))
            number = number_of(NINE, order)
            self.assertTrue(0 <= number < 362880)
            self.assertEqual(nth(NINE, number), order)
            self.shows(NINE, order, line_of(NINE, order))
            seen.add(number)
        self.assertEqual(len(seen), 6)

    def test_what_is_no_number(self):
        for value in any_values():
            if type(value) is not int or value not in (0, 1):
                self.no_number(Book(DUO), value)
        self.no_number(Book(DUO), 2, -1, True, False, (0,), "1")

    def test_orders_are_told_as_in_section_5(self):
        for book in (NINE, PATH, HEARD, Book(Hall("people z a m\nopen a z"))):
            order = nth(book, 0)
            self.assertEqual({type(part) for part in (order, *order)}, {tuple})
            self.assertEqual(list(order), sorted(set(order)))
            self.assertEqual(order, tuple(sorted(left_before(line_of(book, order)))))


class WhatOrdersAreTest(OrdersTest):
    def test_nearly_right_ones(self):
        order = (("x", "z"), ("y", "z"))
        self.assertEqual(number_of(Book(DUO), order) + number_of(Book(DUO), turned_order(order)), 1)
        self.no_order(Book(DUO), order[:1], order[1:], order[::-1], (*order, order[1]), (order[0], *order), list(order),
                      (["x", "z"], ("y", "z")), (("x", "z"), ["y", "z"]), (("x", "y"), *order),
                      (("x", "z"), ("z", "y")),
                      (*order, ("z", "x")), (*order, ("z", "z")), (("x", "x"), *order), (order,), ("x", "z"), (),
                      (("x", "z"), ("y", "z"), ("z", "x"), ("z", "y")), (("w", "z"), *order),
                      (("x", "z", "y"), ("y", "z")),
                      (("x", "z"), ("y",)), ((("x", "z"),), ("y", "z")), (*order, None), (True, False), tuple("xz"))

    def test_each_pair_less_more_or_turned_about(self):
        for book in (PATH, HEARD + ("not", "cyd", "dan"), Book(Hall("people a b c d e\nmet a b\nmet c b\nopen d e"))):
            for number in range(many(book)):
                order = nth(book, number)
                for at, (one, other) in enumerate(order):
                    less = order[:at] + order[at + 1:]
                    if less not in set(orders_of(book.hall, book.sayings)):
                        self.no_order(book, less)
                    changed = tuple(sorted((*less, (other, one))))
                    if changed not in set(orders_of(book.hall, book.sayings)):
                        self.no_order(book, changed)
                    self.no_order(book, (*order, (one, other)), tuple(sorted((*order, (other, one)))))

    def test_in_another_sequence(self):
        for order in permutations(PATH_ORDER):
            if order == PATH_ORDER:
                self.assertEqual(nth(PATH, number_of(PATH, order)), PATH_ORDER)
            else:
                self.no_order(PATH, order)

    def test_orders_that_do_not_fit(self):
        self.no_order(PATH + before("a d"), turned_order(PATH_ORDER))
        self.no_order(PATH + before("c- b-"), PATH_ORDER)
        self.no_order(PATH + ("met", "a", "c"), PATH_ORDER)
        self.no_order(Book(DUO, (before("x z"), before("z x"))), (("x", "z"), ("y", "z")))
        unknown = Book(Hall("people a b\nopen b a"))
        self.no_order(unknown + ("met", "a", "b"), (("a", "b"),), (("b", "a"),))
        self.no_order(unknown + ("not", "a", "b"), ())
        self.no_order(Book(Hall("people a b c")), (("a", "b"), ("b", "c"), ("c", "a")), (("a", "b"), ("b", "c")))
        self.no_order(Book(Hall("people a b c d\nmet a b\nmet b c\nmet c d\nmet d a")), (("a", "c"), ("b", "d")))
        together = Hall("people a b c\nmet a b c")
        self.no_order(Book(together, (before("a b"), before("b c"), before("c a"))), ())

    def test_a_transitive_order_that_no_timeline_has(self):
        # a before c and b before d, with nobody else apart: of two who left before others came, one left first.
        self.no_order(Book(Hall("people a b c d\nmet a b\nmet c d\nopen a c\nopen b d\nopen a d\nopen b c")),
                      (("a", "c"), ("b", "d")))
        self.no_order(Book(Hall("people a b c d\nmet a b\nmet b d\nmet c d\nmet a c\nopen a d\nopen b c")),
                      (("a", "d"), ("b", "c")))

    def test_any_value(self):
        for book in (Book(DUO), NINE, HEARD, FOUR):
            self.no_order(book, *any_values()[:12], *[(value,) for value in any_values()])
            self.no_order(book, *[((value, value),) for value in any_values()], *[[value] for value in any_values()])
            self.no_order(book, nested(tuple, 30), nested(list, 30), "ab", {("x", "z"): True, ("y", "z"): True})
        for book in (ONE, ALL_MET):
            self.no_order(book, *[value for value in any_values() if value != ()], (("a", "a"),), [], (("a", "b"),))


class LineTest(OrdersTest):
    def test_which_are_shown(self):
        order = (("x", "z"), ("y", "z"))
        book = Book(DUO, (before("x y"),))
        self.shows(book, order, LINE, told_line("x y y- x- z z-"))
        self.denies(book, order, told_line("y x x- y- z z-"), told_line("z z- x y x- y-"), list(LINE), LINE[:5],
                    (LINE,),
                    ("timeline", LINE), told_line("x x- y y- z z-"), told_line("x y z x- y- z-"), order, None, ())
        self.denies(book, turned_order(order), LINE)
        self.shows(book, turned_order(order), told_line("z z- x y x- y-"))

    def test_any_value_is_denied(self):
        for value in any_values():
            self.denies(Book(DUO), (("x", "z"), ("y", "z")), value, (value,), [value])

    def test_all_timelines_of_three(self):
        book = Book(Hall("people z x y\nopen x y"), (before("x- z-"),))
        for number in range(many(book)):
            order = nth(book, number)
            for line in all_timelines(("x", "y", "z"))[::2]:
                self.assertIs(shows_line_of(book, order, line),
                              book.fits(line) and tuple(sorted(left_before(line))) == order)

    def test_arguments_are_not_changed(self):
        order = [["x", "z"], ["y", "z"]]
        self.no_order(Book(DUO), order)
        self.assertEqual(order, [["x", "z"], ["y", "z"]])

    def test_equal_calls_equal_results(self):
        for book in (HEARD, NINE, PATH):
            twin = Book(Hall(book.hall.text), tuple(list(book.sayings)))
            for number in (0, 1):
                self.assertEqual(nth(book, number), nth(twin, number))
                self.assertEqual(line_of(book, nth(book, number)), line_of(twin, nth(book, number)))
            self.assertEqual(many(book), many(twin))
            self.assertEqual(book, twin)


if __name__ == "__main__":
    unittest.main()
