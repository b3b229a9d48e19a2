"""Point 16: desks, with what point 2 says of them."""

import copy
import unittest

from metonce.books import Book
from metonce.desk import Desk
from metonce.diaries import Diary
from metonce.errors import (BadClaim, BadJournal, BadLine, BadSaying, Contrary, Full, NoSaying, NothingToRedo,
                            NothingToUndo, NoTimeline)
from metonce.halls import Hall
from metonce.journals import journal, read_journal
from tests.answers import tree_fits
from tests.samples import any_values, before, raised, refuses
from tests.test_cases import FOUR, HALL

START = HALL.text + "\nheard"
WORDS = "people heard met in out before forget not judge there\nmet in out\nopen met heard\nheard"


class DeskTest(unittest.TestCase):
    def answers(self, desk, *lines):
        """Lines and answers, by turns."""
        for line, answer in zip(lines[::2], lines[1::2], strict=True):
            told = desk.say(line)
            self.assertEqual((told, type(told)), (answer, str), line)

    def bad_line(self, *values):
        for text in (START, START + "\nbefore ann in cyd in", FOUR.hall.text + "\nheard", "people a\nheard"):
            desk = Desk(text)
            for value in values:
                refuses(self, BadLine, value, desk.say, value)
                refuses(self, BadLine, value, desk.say, line=value)
            self.assertEqual(journal(desk.diary), text)


class DocumentTest(DeskTest):
    def test_the_example(self):
        desk = Desk(HALL.text + "\nheard\nbefore ann in cyd in")
        self.assertEqual(
            [desk.say(line) for line in ("surely", "judge there bob in ann", "met cyd dan", "surely", "many", "undo",
                                         "judge met cyd dan")],
            ["ann cyd", "open", "ok", "ann cyd, ann dan, bob dan", "1", "ok", "open"])
        self.assertEqual(journal(desk.diary).split("\n")[4:], ["heard", "before ann in cyd in"])

    def test_by_names(self):
        desk = Desk(text=START)
        self.assertEqual(desk.say(line="judge met ann bob"), "always")

    def test_what_the_interface_lists(self):
        desk = Desk(START)
        self.assertIsInstance(desk.diary, Diary)
        self.assertIn("say", vars(Desk))
        self.assertIn("__init__", vars(Desk))
        self.assertEqual(Desk.__module__, "metonce.desk")


class MakingTest(DeskTest):
    def test_by_a_journal(self):
        text = START + "\nbefore ann in cyd in\nforget 0\nmet cyd dan"
        desk = Desk(text)
        self.assertEqual(desk.diary, read_journal(text))
        self.assertEqual((desk.diary.done, journal(desk.diary)), (3, text))

    def test_bad_journals(self):
        for value, number in ((None, 0), ([START], 0), ("", 2), (HALL.text, 5), ("heard", 1), (START + "\n", 6),
                              (START + "\nmet ann bob\nmet ann cyd", 7), ("people a a\nheard", 1), (Diary(HALL), 0)):
            told = raised(self, BadJournal, Desk, value)
            self.assertEqual((told, type(told)), (number, int))

    def test_two_desks_are_independent(self):
        one, other = Desk(START), Desk(START)
        one.say("met cyd dan")
        self.assertEqual((len(one.diary), len(other.diary)), (1, 0))

    def test_the_diary_may_be_used_beside_it(self):
        desk = Desk(START)
        desk.diary.hear(("met", "cyd", "dan"))
        self.answers(desk, "judge met dan cyd", "always", "undo", "ok", "judge met dan cyd", "open")
        with desk.diary.trial():
            self.answers(desk, "redo", "ok", "not ann dan", "ok")
        self.assertEqual((len(desk.diary), desk.diary.done), (0, 0))
        self.answers(desk, "redo", "ok")


class DeedsTest(DeskTest):
    def test_each_form(self):
        desk = Desk(START)
        self.answers(desk, "met cyd dan", "ok", "not ann cyd", "ok", "before ann in cyd in", "ok",
                     "before ann in cyd out", "ok", "before ann out cyd in", "ok", "before bob out dan out", "ok",
                     "forget 0", "ok", "forget 4", "ok")
        self.assertEqual(desk.diary.book.sayings, (("not", "ann", "cyd"), before("ann cyd"), before("ann cyd-"),
                                                   before("ann- cyd")))
        self.assertEqual(desk.diary.done, 8)

    def test_undo_and_redo(self):
        desk = Desk(START)
        self.answers(desk, "met cyd dan", "ok", "undo", "ok", "redo", "ok", "undo", "ok", "not cyd dan", "ok")
        self.assertIsNone(raised(self, NothingToRedo, desk.say, "redo"))
        self.answers(desk, "undo", "ok")
        self.assertIsNone(raised(self, NothingToUndo, desk.say, "undo"))
        self.answers(desk, "redo", "ok", "judge not dan cyd", "always")

    def test_what_the_diary_raises(self):
        desk = Desk(START + "\nbefore ann in cyd in")
        for line, value in (("met ann eve", ("met", "ann", "eve")), ("not ann ann", ("not", "ann", "ann")),
                            ("met A 7", ("met", "A", "7")), ("before x in ann out", before("x ann-")),
                            ("before ann in ann out", before("ann ann-")), ("met met met", ("met", "met", "met"))):
            self.assertEqual(raised(self, BadSaying, desk.say, line), value)
        for line, value in (("forget 1", 1), ("forget 30", 30), ("forget 999999999999", 999999999999)):
            told = raised(self, NoSaying, desk.say, line)
            self.assertEqual((told, type(told)), (value, int))
        tree = raised(self, Contrary, desk.say, "before cyd in ann in")
        self.assertTrue(tree_fits(HALL, (before("ann cyd"), before("cyd ann")), tree))
        for line, value in (("judge met ann eve", ("met", "ann", "eve")),
                            ("judge there ann in ann", ("there", ("ann", "in"), "ann")),
                            ("judge within ann ann", ("within", "ann", "ann")),
                            ("judge before a in b in", before("a b"))):
            self.assertEqual(raised(self, BadClaim, desk.say, line), value)
        self.assertEqual(journal(desk.diary), START + "\nbefore ann in cyd in")
        full = Desk("\n".join([START, *["met ann bob"] * 30]))
        told = raised(self, Full, full.say, "met ann bob")
        self.assertEqual((told, type(told)), (30, int))
        self.assertEqual(raised(self, BadSaying, full.say, "met ann ann"), ("met", "ann", "ann"))

    def test_a_hall_that_no_timeline_keeps(self):
        desk = Desk(FOUR.hall.text + "\nheard")
        self.answers(desk, "many", "0")
        self.assertEqual(raised(self, NoTimeline, desk.say, "surely"), Book(FOUR.hall))
        self.assertEqual(raised(self, NoTimeline, desk.say, "judge met a b"), Book(FOUR.hall))
        self.assertEqual(raised(self, BadClaim, desk.say, "judge met a e"), ("met", "a", "e"))
        raised(self, Contrary, desk.say, "met a b")
        raised(self, NothingToUndo, desk.say, "undo")


class AskedTest(DeskTest):
    def test_judge(self):
        desk = Desk(START + "\nbefore ann in cyd in")
        self.answers(desk, "judge met ann bob", "always", "judge not bob ann", "never", "judge met cyd dan", "open",
                     "judge before bob in cyd in", "always", "judge before cyd out ann in", "never",
                     "judge before ann out dan in", "open", "judge there bob in ann", "open", "judge there cyd in ann",
                     "never", "judge there cyd in bob", "always", "judge within ann bob", "open",
                     "judge within cyd ann",
                     "never")
        self.answers(desk, "before bob in ann in", "ok", "judge within ann bob", "always", "judge there ann out bob",
                     "always")
        self.assertEqual(desk.diary.done, 2)

    def test_surely(self):
        for text, told in (("people a b\nmet a b\nheard", ""), ("people a\nheard", ""),
                           ("people a b\nheard\nbefore b in a in", "b a"),
                           ("people c a b\nheard\nbefore c in b in\nbefore b in a in", "b a, c a, c b")):
            self.answers(Desk(text), "surely", told)

    def test_many(self):
        for text, told in (("people a\nheard", "1"), ("people a b c d e f g h i\nheard", "362880"),
                           ("people a b c d\nheard\nbefore a in b in", "12"), (START + "\nbefore ann in cyd in", "3")):
            self.answers(Desk(text), "many", told)

    def test_people_who_are_called_as_words(self):
        desk = Desk(WORDS)
        self.answers(desk, "before in in out out", "ok", "judge before in in out in", "open", "judge met met heard",
                     "open",
                     "judge not judge there", "always", "judge there in in out", "open", "judge there there in judge",
                     "never",
                     "judge within in out", "open", "met heard met", "ok", "not not forget", "ok",
                     "forget 2", "ok")
        self.assertEqual(desk.diary.book.sayings, (("before", ("in", "in"), ("out", "out")), ("met", "heard", "met")))


class BadLineTest(DeskTest):
    def test_no_string(self):
        self.bad_line(*[value for value in any_values() if not isinstance(value, str)])
        self.bad_line(["many"], ("many",), ["met", "ann", "bob"], ("met", "ann", "bob"), {"many": 1}, Desk(START))

    def test_none_of_the_forms(self):
        self.bad_line(*[value for value in any_values() if isinstance(value, str)])
        self.bad_line("", " ", "Many", "many ", " many", "many many", "surely ann", "surely ", "undo 1", "undo undo",
                      "redo ", "judge", "judge ", "judge surely", "judge many", "judge undo", "judge forget 0",
                      "judge judge met ann bob", "heard", "people ann", "open cyd dan", "there bob in ann",
                      "within ann bob", "keep", "trial", "copy", "hear met ann bob", "ok")

    def test_words_more_or_less_or_otherwise(self):
        self.bad_line("met", "met ann", "met ann bob cyd", "not ann", "before ann in cyd", "before ann in cyd in bob",
                      "before ann cyd", "before ann on cyd in", "before ann in cyd IN", "before in ann in cyd",
                      "forget",
                      "forget ann", "forget 0 1", "judge met ann", "judge met ann bob cyd", "judge not ann",
                      "judge before ann in cyd", "judge before ann in cyd on", "judge there ann bob",
                      "judge there ann in",
                      "judge there ann in bob out", "judge there ann at bob", "judge there bob ann in",
                      "judge within ann",
                      "judge within ann bob cyd", "judge within ann in bob", "judge ann bob",
                      "judge always met ann bob")

    def test_blanks(self):
        self.bad_line("met  ann bob", " met ann bob", "met ann bob ", "met ann ", "forget  0", "forget 0 ",
                      "judge  met ann bob",
                      "judge met ann  bob", "judge met ann ", "before ann in cyd  in", "judge there ann in ",
                      "judge within ann ",
                      "judge  ", "undo ", " surely", "judge there  in bob")

    def test_integers(self):
        self.bad_line("forget 00", "forget 01", "forget -1", "forget +1", "forget 0.0", "forget 1e3", "forget 0x1",
                      "forget 1_0", "forget -0")

    def test_line_feeds(self):
        self.bad_line("met ann bob\n", "\nmet ann bob", "many\n", "undo\nredo", "\n", "met ann\nbob", "met\nann bob",
                      "judge met ann bob\n", "forget 0\n", "surely\nmany", "met ann bob\nmet ann bob", "met ann b\nob")

    def test_ahead_of_what_the_diary_raises(self):
        self.bad_line("met eve", "forget 0 0", "judge there eve eve", "judge met eve", "before eve in eve")
        desk = Desk("\n".join([START, *["met ann bob"] * 30]))
        refuses(self, BadLine, "met ann", desk.say, "met ann")

    def test_arguments_are_not_changed(self):
        value = ["met", ["ann", "bob"]]
        kept = copy.deepcopy(value)
        refuses(self, BadLine, value, Desk(START).say, value)
        self.assertEqual(value, kept)

    def test_a_refused_line_leaves_what_can_be_done_again(self):
        desk = Desk(START + "\nmet cyd dan\nbefore ann in cyd in")
        desk.say("undo")
        for kind, line in ((BadLine, "met ann"), (BadSaying, "met ann ann"), (NoSaying, "forget 1"),
                           (Contrary, "not dan cyd"), (BadClaim, "judge met ann ann")):
            raised(self, kind, desk.say, line)
        self.answers(desk, "redo", "ok")
        self.assertEqual(desk.diary, read_journal(START + "\nmet cyd dan\nbefore ann in cyd in"))


if __name__ == "__main__":
    unittest.main()
