"""Point 4, with what point 2 says of it."""

import unittest

from metonce.errors import Alone, BadHall, NoPerson
from metonce.halls import Hall
from tests.samples import any_values, nested, raised, refuses

TEXT = "people ann bob cyd dan\nmet ann bob\nmet bob cyd\nopen cyd dan"


class HallsTest(unittest.TestCase):
    def takes(self, text):
        self.assertEqual(Hall(text).text, text)

    def wrong_at(self, number, text):
        self.assertEqual(raised(self, BadHall, Hall, text), number, text)


class ReadingTest(HallsTest):
    def test_the_example_of_the_document(self):
        hall = Hall(TEXT)
        self.assertEqual(
            [hall.told("bob", "ann"), hall.told("ann", "cyd"), hall.told("dan", "cyd"), hall.opens,
             hall.without("bob").text],
            ["met", "not", "open", (("cyd", "dan"),), "people ann cyd dan\nopen cyd dan"])

    def test_properties(self):
        hall = Hall("people dan ann\nopen dan ann")
        self.assertEqual((hall.text, hall.people, hall.opens),
                         ("people dan ann\nopen dan ann", ("dan", "ann"), (("dan", "ann"),)))
        self.assertEqual(Hall("people a b").opens, ())

    def test_the_text_by_its_name(self):
        self.assertEqual(Hall(text=TEXT).people, ("ann", "bob", "cyd", "dan"))

    def test_opens_stand_as_told(self):
        hall = Hall("people a b c\nopen c a\nopen a b")
        self.assertEqual(hall.opens, (("c", "a"), ("a", "b")))
        self.assertEqual([type(pair) for pair in (hall.opens, *hall.opens)], [tuple] * 3)

    def test_one_and_nine_people(self):
        self.takes("people a")
        self.takes("people a b c d e f g h i")
        self.wrong_at(1, "people a b c d e f g h i j")
        self.wrong_at(1, "people")
        self.wrong_at(1, "people ")

    def test_a_person_twice(self):
        self.wrong_at(1, "people a b a")
        self.wrong_at(1, "people a a")
        self.wrong_at(2, "people a b c\nmet a b a")
        self.wrong_at(2, "people a b c\nmet a a")
        self.wrong_at(2, "people a b c\nopen a a")

    def test_names_of_one_and_of_eight_letters(self):
        self.takes("people a abcdefgh\nmet abcdefgh a")
        self.takes("people z zzzzzzzz")
        self.wrong_at(1, "people a abcdefghi")

    def test_names_of_other_signs(self):
        for name in ("A", "aB", "a1", "1", "-", "a-b", "a_b", "a.", "'a'", "\"a\"", "{", "`", "a\tb"):
            self.wrong_at(1, "people x " + name)
            self.wrong_at(1, "people " + name)

    def test_the_words_of_lines_are_names_too(self):
        hall = Hall("people people met open in\nmet met open\nopen people met")
        self.assertEqual(hall.told("met", "open"), "met")
        self.assertEqual(hall.told("met", "people"), "open")
        self.assertEqual(hall.without("met").text, "people people open in")
        self.assertEqual(hall.without("people").text, "people met open in\nmet met open")

    def test_twenty_lines_met_and_one_more(self):
        ahead = "people a b c" + "\nmet a b" * 20
        self.takes(ahead)
        self.takes(ahead + "\nopen a c")
        self.wrong_at(22, ahead + "\nmet a b")
        self.wrong_at(22, ahead + "\nmet a c\nmet b c\nopen a b")

    def test_four_lines_open_and_one_more(self):
        ahead = "people a b c d\nmet a b\nopen a c\nopen a d\nopen b c\nopen b d"
        self.takes(ahead)
        self.wrong_at(7, ahead + "\nopen c d")
        self.assertEqual(len(Hall(ahead).opens), 4)

    def test_most_of_all(self):
        self.takes("people a b c d e f g h i" + "\nmet a b c d e f g h" * 20
                   + "\nopen a i\nopen b i\nopen c i\nopen d i")

    def test_lines_in_another_sequence(self):
        self.wrong_at(1, "met a b\npeople a b")
        self.wrong_at(1, "open a b\npeople a b")
        self.wrong_at(2, "people a b\npeople a b")
        self.wrong_at(2, "people a\npeople b")
        self.wrong_at(3, "people a b c\nmet a b\npeople a b c")
        self.wrong_at(3, "people a b c\nopen a b\nmet a c")
        self.wrong_at(4, "people a b c\nmet a b\nopen a c\nmet b c")

    def test_blanks_too_many_or_too_few(self):
        for line in (" people a b", "people  a b", "people a  b", "people a b ", "peoplea b", "people\ta b"):
            self.wrong_at(1, line)
        for line in (" met a b", "met  a b", "met a  b", "met a b ", "meta b", "met ab", "met a\tb"):
            self.wrong_at(2, "people a b\n" + line)
        for line in (" open a b", "open  a b", "open a  b", "open a b ", "opena b", "open ab"):
            self.wrong_at(2, "people a b\n" + line)

    def test_empty_lines(self):
        self.wrong_at(1, "")
        self.wrong_at(1, "\n")
        self.wrong_at(1, " ")
        self.wrong_at(1, "\npeople a b")
        self.wrong_at(2, "people a b\n")
        self.wrong_at(2, "people a b\n\nmet a b")
        self.wrong_at(3, "people a b\nmet a b\n")
        self.wrong_at(3, "people a b\nopen a b\n")
        self.wrong_at(2, "people a b\n ")

    def test_lines_of_no_form(self):
        for line in ("met", "met a", "met a d", "met d a", "met a b d", "open", "open a", "open a b c", "open a d",
                     "open d a", "Met a b", "MET a b", "not a b", "before a in b in", "heard", "a b", "people"):
            self.wrong_at(2, "people a b c\n" + line)
        for line in ("People a b", "person a b", "a b", "heard"):
            self.wrong_at(1, line)

    def test_the_first_wrong_line_is_told(self):
        self.wrong_at(1, "people a a\nmet a a\nopen")
        self.wrong_at(2, "people a b\nmet a c\nmet a a\n")
        self.wrong_at(3, "people a b\nmet a b\nopen a b\nopen b a")

    def test_open_of_a_pair_that_met(self):
        self.wrong_at(3, "people a b c\nmet a b\nopen a b")
        self.wrong_at(3, "people a b c\nmet a b\nopen b a")
        self.wrong_at(3, "people a b c\nmet a b c\nopen c a")
        self.wrong_at(3, "people a b c\nmet c b a\nopen a c")
        self.wrong_at(5, "people a b c\nmet a b\nmet b c\nopen c a\nopen c b")

    def test_open_of_a_pair_that_is_open(self):
        self.wrong_at(3, "people a b c\nopen a b\nopen a b")
        self.wrong_at(3, "people a b c\nopen a b\nopen b a")
        self.wrong_at(4, "people a b c\nopen a b\nopen c a\nopen b a")

    def test_a_pair_may_meet_in_several_lines(self):
        self.takes("people a b c\nmet a b\nmet b a\nmet a b c")

    def test_what_is_no_string(self):
        for value in any_values():
            if not isinstance(value, str):
                self.assertEqual(raised(self, BadHall, Hall, value), 0)
        self.wrong_at(0, ["people a"])
        self.wrong_at(0, ("people a",))
        self.wrong_at(0, Hall("people a"))

    def test_numbers_of_lines_are_integers(self):
        self.assertIs(type(raised(self, BadHall, Hall, None)), int)
        self.assertIs(type(raised(self, BadHall, Hall, "")), int)


class ToldTest(HallsTest):
    def test_all_pairs(self):
        hall = Hall("people a b c d e\nmet c a b\nmet d a\nopen d b\nopen c e")
        met = ["ab", "ac", "bc", "ad"]
        nobody_knows = ["bd", "ce"]
        for one in hall.people:
            for other in hall.people:
                pair = "".join(sorted((one, other)))
                if one != other:
                    word = "met" if pair in met else "open" if pair in nobody_knows else "not"
                    self.assertEqual(hall.told(one, other), word, pair)

    def test_by_names(self):
        hall = Hall(TEXT)
        self.assertEqual(hall.told(one="bob", other="cyd"), "met")
        self.assertEqual(hall.told("bob", other="dan"), "not")

    def test_who_is_no_person(self):
        hall = Hall("people x y z\nmet x y")
        for value in any_values():
            refuses(self, NoPerson, value, hall.told, value, "x")
            refuses(self, NoPerson, value, hall.told, "x", value)
            refuses(self, NoPerson, value, hall.told, value, value)

    def test_the_first_wrong_argument_is_told(self):
        hall = Hall("people x y z\nmet x y")
        one, other = ["x"], nested(tuple, 30)
        refuses(self, NoPerson, one, hall.told, one, other)
        refuses(self, NoPerson, other, hall.told, other, one)
        refuses(self, NoPerson, one, hall.told, other="x", one=one)

    def test_the_same_person(self):
        hall = Hall("people x y\nmet x y")
        self.assertEqual(raised(self, NoPerson, hall.told, "x", "x"), "x")
        self.assertEqual(raised(self, NoPerson, Hall("people x").told, "x", "x"), "x")


class WithoutTest(HallsTest):
    def test_lines_that_stay_and_go(self):
        hall = Hall("people a b c d\nmet a b\nmet b c d\nmet c d\nopen a c\nopen d a")
        self.assertEqual(hall.without("a").text, "people b c d\nmet b c d\nmet c d")
        self.assertEqual(hall.without("b").text, "people a c d\nmet c d\nmet c d\nopen a c\nopen d a")
        self.assertEqual(hall.without("c").text, "people a b d\nmet a b\nmet b d\nopen d a")
        self.assertEqual(hall.without("d").text, "people a b c\nmet a b\nmet b c\nopen a c")

    def test_it_is_the_hall_of_the_text(self):
        hall = Hall("people a b c d\nmet a b\nmet b c d\nopen a c\nopen d a")
        for name in hall.people:
            less = hall.without(name)
            self.assertIsInstance(less, Hall)
            self.assertEqual(less, Hall(less.text))
            self.assertEqual(less.people, tuple(other for other in hall.people if other != name))
            self.assertEqual(less.opens, tuple(pair for pair in hall.opens if name not in pair))
            for one in less.people:
                for other in less.people:
                    if one != other:
                        self.assertEqual(less.told(one, other), hall.told(one, other))

    def test_the_hall_itself_stays(self):
        hall = Hall(TEXT)
        hall.without("bob")
        self.assertEqual((hall, hall.text, len(hall)), (Hall(TEXT), TEXT, 4))
        self.assertEqual(hall.told("ann", "bob"), "met")

    def test_names_that_begin_alike(self):
        hall = Hall("people a ab abc\nmet a ab abc")
        self.assertEqual(hall.without("a").text, "people ab abc\nmet ab abc")
        self.assertEqual(hall.without("ab").text, "people a abc\nmet a abc")

    def test_down_to_one(self):
        one = Hall("people a b\nmet a b").without(name="a")
        self.assertEqual(one.text, "people b")
        self.assertEqual(raised(self, Alone, one.without, "b"), "b")
        self.assertEqual(raised(self, NoPerson, one.without, "a"), "a")

    def test_who_is_no_person(self):
        hall = Hall("people x y z\nmet x y")
        alone = Hall("people x")
        for value in any_values():
            refuses(self, NoPerson, value, hall.without, value)
            refuses(self, NoPerson, value, alone.without, value)


class SignsTest(HallsTest):
    def test_len(self):
        self.assertEqual(len(Hall("people a")), 1)
        self.assertEqual(len(Hall("people a b c d e f g h i\nmet a b")), 9)

    def test_in(self):
        hall = Hall("people x y z\nmet x y")
        for name in "xyz":
            self.assertIs(name in hall, True)
        for value in any_values():
            self.assertIs(value in hall, False)
            self.assertIs(value not in hall, True)

    def test_equal_just_by_the_text(self):
        self.assertTrue(Hall(TEXT) == Hall(TEXT))
        self.assertFalse(Hall(TEXT) != Hall(TEXT))
        for other in ("people x y\nmet y x", "people y x\nmet x y", "people x y", "people x y\nmet x y\nmet x y"):
            self.assertFalse(Hall("people x y\nmet x y") == Hall(other))
            self.assertTrue(Hall("people x y\nmet x y") != Hall(other))

    def test_equal_to_nothing_else(self):
        hall = Hall("people x")
        for value in [*any_values(), "people x", ("x",), {"text": "people x"}]:
            self.assertIs(hall == value, False)
            self.assertIs(value == hall, False)
            self.assertIs(hall != value, True)

    def test_methods_stand_in_the_class(self):
        for name in ("told", "without", "__init__", "__len__", "__contains__", "__eq__"):
            self.assertIn(name, vars(Hall))
        self.assertEqual(Hall.__module__, "metonce.halls")

    def test_equal_calls_equal_results(self):
        hall = Hall(TEXT)
        for _ in range(2):
            self.assertEqual(hall.told("ann", "dan"), "not")
            self.assertEqual(hall.without("ann"), Hall("people bob cyd dan\nmet bob cyd\nopen cyd dan"))
            self.assertEqual(raised(self, NoPerson, hall.told, "ann", "eve"), "eve")
        self.assertEqual(hall, Hall(TEXT))


if __name__ == "__main__":
    unittest.main()
