"""Point 16: journals, with what point 2 says of them."""

import copy
import unittest

from metonce.diaries import Diary
from metonce.errors import BadJournal, NothingToRedo
from metonce.halls import Hall
from metonce.journals import journal, read_journal
from tests.samples import DUO, any_values, before, raised
from tests.test_cases import FOUR, HALL, NET

TEXT = "people a b c\nmet a b\nopen c b"
START = TEXT + "\nheard"
# The number of the first line behind the line heard.
FIRST = 5
WORDS = Hall("people heard met in out before forget not judge there\nmet in out\nopen met heard")


class JournalsTest(unittest.TestCase):
    def wrong(self, value, number):
        told = raised(self, BadJournal, read_journal, value)
        self.assertEqual((told, type(told)), (number, int), value)

    def wrong_line(self, *lines, ahead=()):
        """Each of these lines is wrong behind the lines ahead, whatever stands behind it."""
        for line in lines:
            text = "\n".join([START, *ahead, line])
            for more in ("", "\nmet a b", "\nnonsense", "\n", "\nheard"):
                self.wrong(text + more, FIRST + len(ahead))

    def right(self, *lines):
        """The diary of these lines, whose journal is the text again."""
        text = "\n".join([START, *lines])
        diary = read_journal(text)
        self.assertIsInstance(diary, Diary)
        self.assertEqual(journal(diary), text)
        self.assertEqual((diary.hall, diary.done), (Hall(TEXT), len(lines)))
        raised(self, NothingToRedo, diary.redo)
        return diary


class JournalTest(JournalsTest):
    def test_a_new_one(self):
        for hall in (DUO, HALL, WORDS, FOUR.hall, Hall("people a"), Hall("people heard")):
            self.assertEqual(journal(Diary(hall)), hall.text + "\nheard")
        self.assertEqual(journal(diary=Diary(DUO)), "people x y z\nmet x y\nheard")

    def test_each_deed(self):
        diary = Diary(Hall(TEXT))
        for saying in (("met", "b", "a"), ("not", "c", "a"), before("a b"), before("a b-"), before("a- c-"),
                       before("b- c")):
            diary.hear(saying)
        diary.forget(3)
        diary.forget(0)
        self.assertEqual(journal(diary).split("\n")[3:], [
            "heard", "met b a", "not c a", "before a in b in", "before a in b out", "before a out c out",
            "before b out c in", "forget 3", "forget 0"])

    def test_deeds_that_stand(self):
        diary = Diary(DUO)
        diary.hear(before("x z"))
        diary.forget(0)
        diary.hear(before("z x"))
        texts = [journal(diary)]
        for _ in range(3):
            diary.undo()
            texts.append(journal(diary))
        lines = ["heard", "before x in z in", "forget 0", "before z in x in"]
        self.assertEqual(texts, ["\n".join([DUO.text, *lines[:count]]) for count in (4, 3, 2, 1)])
        diary.redo()
        self.assertEqual(journal(diary), texts[2])

    def test_within_blocks(self):
        diary = Diary(DUO)
        with diary.trial():
            diary.hear(before("x z"))
            self.assertEqual(journal(diary).split("\n")[2:], ["heard", "before x in z in"])
        self.assertEqual(journal(diary).split("\n")[2:], ["heard"])

    def test_refused_deeds_are_none(self):
        diary = Diary(DUO)
        for call, value in ((diary.hear, ("not", "x", "y")), (diary.hear, 1), (diary.forget, 0)):
            with self.assertRaises(ValueError):
                call(value)
        self.assertEqual(journal(diary), DUO.text + "\nheard")

    def test_the_diary_is_not_changed(self):
        diary = read_journal(START + "\nmet a b\nforget 0")
        twin = diary.copy()
        self.assertEqual(journal(diary), journal(diary))
        self.assertEqual((diary, diary.done), (twin, twin.done))

    def test_functions_stand_in_their_file(self):
        for function in (journal, read_journal):
            self.assertEqual(function.__module__, "metonce.journals")


class ReadTest(JournalsTest):
    def test_each_form(self):
        self.assertEqual(len(self.right()), 0)
        diary = self.right("met b a", "not c a", "before a in b in", "before a in b out", "forget 3",
                           "before a out c out",
                           "before b out c in", "forget 0", "forget 1")
        self.assertEqual(diary.book.sayings, (("not", "c", "a"), before("a- c-"), before("b- c")))
        self.assertEqual(read_journal(text=START).hall, Hall(TEXT))

    def test_deeds_can_be_undone(self):
        diary = self.right("met b a", "forget 0", "not a c")
        for count in (0, 1, 0):
            diary.undo()
            self.assertEqual(len(diary), count)

    def test_no_string(self):
        for value in any_values():
            if not isinstance(value, str):
                self.wrong(value, 0)
        for value in ([START], (START,), None, 0, True, Hall(TEXT), Diary(Hall(TEXT)), {START: 1}):
            self.wrong(value, 0)

    def test_no_line_heard(self):
        for text, number in (("", 2), ("x", 2), ("\n", 3), (TEXT, 4), (TEXT + "\n", 5), ("people a\nmet a b", 3),
                             ("people a\nheard ", 3), ("people a\n heard", 3), ("people a\nHeard", 3), ("heard.", 2),
                             ("people heard", 2), ("people a b\nmet a b\nmet a b\nheardheard\nnonsense", 6),
                             ("people a\nheard heard", 3), (TEXT + "\nheard\tx", 5)):
            self.wrong(text, number)

    def test_nothing_ahead_of_it(self):
        for text in ("heard", "heard\nheard", "heard\npeople a", "heard\n", "heard\nmet a b\nheard"):
            self.wrong(text, 1)

    def test_the_lines_of_the_hall(self):
        for text, number in (("\nheard", 1), ("people\nheard", 1), ("people a\n\nheard", 2),
                             ("people a\nmet a b\nheard", 2),
                             ("people a b\nmet a b\nopen a b\nheard", 3), ("people a b\nopen a b\nmet a b\nheard", 3),
                             ("people a a\nheard", 1), ("people a b\nmet a  b\nheard", 2), (" people a\nheard", 1),
                             ("people a b\nbefore a in b in\nheard", 2), ("people a b\nmet a b\nforget 0\nheard", 3),
                             ("met a b\npeople a b\nheard", 1), ("people a b\nmet a b\nmet a b \nheard\nnonsense", 3),
                             ("people a" + "\nmet a a" * 20 + "\nheard", 2), ("people a b\nnot a b\nheard", 2),
                             ("people a b" + "\nmet a b" * 21 + "\nheard", 22), ("people a b\nundo\nheard", 2)):
            self.wrong(text, number)
        self.assertEqual(read_journal("people a b" + "\nmet a b" * 20 + "\nheard\nmet a b").done, 1)

    def test_two_lines_heard(self):
        self.wrong_line("heard")
        self.wrong_line("heard", ahead=("met a b", "forget 0"))

    def test_words_less_or_more_or_otherwise(self):
        self.wrong_line("", " ", "met", "met a", "met a b c", "not a", "not a b c", "Met a b", "a b", "met, a, b",
                        "before a in b", "before a in b in c", "before a b", "before a in b in out", "before in a in b",
                        "before a In b in", "before a in b on", "before a at b in", "before a in in b", "before",
                        "forget",
                        "forget 0 0", "forget a", "undo", "redo", "surely", "many", "judge met a b", "there a in b",
                        "within a b", "people a b c", "open a b", "forget one", "met a b.", "keep", "trial",
                        "hear met a b")

    def test_blanks(self):
        self.wrong_line("met  a b", "met a  b", " met a b", "met a b ", "met a ", "met  a", "not a  b", "forget  0",
                        "forget 0 ", " forget 0", "forget ", "before a in  b in", "before a in b in ", "before a in b ",
                        "before  in b in", "before a  b in", "met\ta b", " heard", "heard ")

    def test_integers(self):
        self.wrong_line("forget 00", "forget 01", "forget 1", "forget -1", "forget -0", "forget +0", "forget 0.0",
                        "forget 0x0", "forget 1_0", "forget 10", "forget 0,", "forget 000000", "forget 2",
                        "forget 12345",
                        ahead=("met a b",))
        self.wrong_line("forget 0")
        self.wrong_line("forget 0", ahead=("met a b", "forget 0"))
        self.assertEqual(self.right("met a b", "forget 0").done, 2)
        many = ["met a b"] * 12 + ["not a c"]
        self.assertEqual(len(self.right(*many, "forget 12", "forget 10", "forget 0")), 10)
        self.wrong_line("forget 13", "forget 010", ahead=tuple(many))

    def test_deeds_that_are_refused(self):
        self.wrong_line("met a d", "met a a", "not d a", "not b b", "before a in a out", "before d in a in", "met A b",
                        "before a in d out", "not a b", "met c a", "before a out b in", "before b out a in",
                        "met a heard")
        self.wrong_line("before c in a in", ahead=("before a in c in",))
        self.wrong_line("met a b", ahead=("met a b",) * 30)
        self.right(*["met a b"] * 30)

    def test_a_hall_that_no_timeline_keeps(self):
        for text in (FOUR.hall.text, NET):
            diary = read_journal(text + "\nheard")
            self.assertEqual((diary.hall, diary.done), (Hall(text), 0))
            self.assertEqual(journal(diary), text + "\nheard")
            self.wrong(text + "\nheard\nmet a b", text.count("\n") + 3)

    def test_people_who_are_called_as_words(self):
        lines = ["not heard in", "before in in out out", "before met out in in", "not not forget", "not met before",
                 "before forget in before in", "met met heard", "forget 3", "before judge out there in"]
        text = "\n".join([WORDS.text, "heard", *lines])
        diary = read_journal(text)
        self.assertEqual(journal(diary), text)
        self.assertEqual(diary.book.sayings[1], ("before", ("in", "in"), ("out", "out")))
        self.assertEqual(diary.done, 9)
        only = read_journal("people heard met\nmet heard met\nheard\nmet heard met")
        self.assertEqual(only.book.sayings, (("met", "heard", "met"),))

    def test_one_person(self):
        self.assertEqual(journal(read_journal("people heard\nheard")), "people heard\nheard")
        self.wrong("people heard\nheard\nheard", 3)
        self.wrong("people a\nheard\nmet a a", 3)
        self.wrong("people a\nheard\nforget 0", 3)

    def test_equal_calls_equal_results(self):
        text = START + "\nmet a b\nbefore a in c in"
        one, other = read_journal(text), read_journal(text)
        self.assertEqual(one, other)
        one.undo()
        self.assertNotEqual(one, other)
        self.assertEqual(read_journal(text), other)

    def test_arguments_are_not_changed(self):
        value = [START, ["met a b"]]
        kept = copy.deepcopy(value)
        self.wrong(value, 0)
        self.assertEqual(value, kept)

    def test_a_long_journal(self):
        lines = ["before a in c in", "forget 0"] * 330
        text = "\n".join([START, *lines])
        self.assertLess(len(text), 9000)
        diary = self.right(*lines)
        self.assertEqual((len(diary), diary.done), (0, 660))


if __name__ == "__main__":
    unittest.main()
