"""Point 15, with what point 2 says of it."""

import copy
import unittest

from metonce.books import Book
from metonce.diaries import Diary
from metonce.errors import (BadClaim, BadSaying, Contrary, Full, MeetError, NoSaying, NothingToRedo, NothingToUndo,
                            NoTimeline, NoTrial)
from metonce.halls import Hall
from metonce.judging import judged, shows_judged
from metonce.orders import many
from metonce.possible import shows_possible, surely
from tests.answers import tree_fits
from tests.samples import DUO, any_values, before, nearly_sayings, raised, refuses
from tests.test_cases import FOUR, HALL, NET
from tests.test_judging import CLAIMS, nearly_claims

APART = Hall("people a b c")
MET = Hall("people a b c\nmet a b c")
AB, BC, CA = before("a b"), before("b c"), before("c a")
WORDS = ["__init__", "hear", "forget", "judged", "surely", "undo", "redo", "trial", "keep", "tried", "copy", "__len__",
         "__eq__"]


class Wrong(Exception):
    """An error of the tests' own."""


def heard(hall, *sayings):
    diary = Diary(hall)
    for saying in sayings:
        diary.hear(saying)
    return diary


class DiariesTest(unittest.TestCase):
    def stands(self, diary, *sayings, done=None):
        """The diary has just these sayings, by so many deeds."""
        self.assertEqual(diary.book, Book(diary.hall, sayings))
        self.assertIsInstance(diary.book, Book)
        self.assertEqual((len(diary), type(len(diary))), (len(sayings), int))
        self.assertEqual((diary.done, type(diary.done)), (len(sayings) if done is None else done, int))

    def can_redo(self, diary, count):
        """Just so many deeds can be done again; behind it all is as before."""
        twin = diary.copy()
        for _ in range(count):
            self.assertIsNone(twin.redo())
        self.assertIsNone(raised(self, NothingToRedo, twin.redo))
        self.assertEqual(twin.done, diary.done + count)

    def can_undo(self, diary):
        """Just as many deeds can be taken back as stand."""
        twin = diary.copy()
        for _ in range(diary.done):
            self.assertIsNone(twin.undo())
        self.assertIsNone(raised(self, NothingToUndo, twin.undo))
        self.stands(twin)


class MakingTest(DiariesTest):
    def test_a_new_one(self):
        for hall in (DUO, HALL, Hall("people a"), FOUR.hall):
            for diary in (Diary(hall), Diary(hall=hall)):
                self.assertIs(diary.hall, hall)
                self.stands(diary)
                self.can_undo(diary)
                self.can_redo(diary, 0)
                self.assertIsNone(raised(self, NoTrial, diary.keep))

    def test_what_the_interface_lists(self):
        diary = Diary(DUO)
        for name in ("hall", "book", "done", *WORDS):
            self.assertTrue(hasattr(diary, name))
        for name in WORDS:
            self.assertIn(name, vars(Diary))
        self.assertEqual(Diary.__module__, "metonce.diaries")

    def test_two_of_one_hall_are_independent(self):
        one, other = Diary(APART), Diary(APART)
        one.hear(AB)
        self.stands(one, AB)
        self.stands(other)


class HearTest(DiariesTest):
    def test_behind_the_others(self):
        diary = Diary(APART)
        told = []
        for saying in (AB, ("not", "b", "c"), AB, BC, before("a- c-")):
            self.assertIsNone(diary.hear(saying))
            told.append(saying)
            self.stands(diary, *told)
        self.assertIsNone(Diary(APART).hear(saying=AB))

    def test_bad_saying(self):
        for diary in (heard(DUO, before("x z")), heard(DUO, *[before("x z")] * 30), Diary(Hall(DUO.text))):
            book = diary.book
            for value in [*any_values(), *nearly_sayings()]:
                refuses(self, BadSaying, value, diary.hear, value)
                refuses(self, BadSaying, value, diary.hear, saying=value)
            self.assertEqual(diary.book, book)

    def test_thirty_and_one_more(self):
        diary = heard(APART, *[AB] * 30)
        for saying in (AB, BC, before("b a"), ("met", "a", "b")):
            value = raised(self, Full, diary.hear, saying)
            self.assertEqual((value, type(value)), (30, int))
        self.stands(diary, *[AB] * 30)
        diary.forget(29)
        self.assertIsInstance(raised(self, Contrary, diary.hear, before("b a")), tuple)
        diary.hear(BC)
        self.stands(diary, *[AB] * 29, BC, done=32)

    def test_contrary(self):
        for hall, sayings, saying in ((APART, (AB,), before("b a")), (APART, (), ("met", "a", "b")),
                                      (MET, (AB, BC), CA), (MET, (), before("a- b")), (DUO, (), ("not", "y", "x")),
                                      (HALL, (before("ann cyd"), before("cyd- dan-")), before("dan- ann"))):
            diary = heard(hall, *sayings)
            book = Book(hall, (*sayings, saying))
            tree = raised(self, Contrary, diary.hear, saying)
            self.assertTrue(tree_fits(hall, book.sayings, tree))
            self.assertIs(shows_possible(book, ("none", tree)), True)
            self.stands(diary, *sayings)

    def test_the_tree_asks(self):
        hall = Hall("people a b c d\nmet a b\nmet b c\nmet c d\nopen a d")
        tree = raised(self, Contrary, Diary(hall).hear, ("met", "d", "a"))
        self.assertEqual(tree[:2], ("ask", 0))
        self.assertTrue(tree_fits(hall, (("met", "d", "a"),), tree))

    def test_refused_deeds_are_none(self):
        diary = heard(APART, AB, BC)
        diary.undo()
        raised(self, BadSaying, diary.hear, None)
        raised(self, Contrary, diary.hear, before("b a"))
        raised(self, NoSaying, diary.forget, 1)
        self.stands(diary, AB)
        self.can_redo(diary, 1)
        diary.redo()
        self.stands(diary, AB, BC)


class ForgetTest(DiariesTest):
    def test_those_behind_move_up(self):
        for number, left in ((0, (BC, AB, BC)), (1, (AB, AB, BC)), (2, (AB, BC, BC)), (3, (AB, BC, AB))):
            diary = heard(APART, AB, BC, AB, BC)
            self.assertIsNone(diary.forget(number))
            self.stands(diary, *left, done=5)
            diary.undo()
            self.stands(diary, AB, BC, AB, BC)
        diary = heard(APART, AB)
        self.assertIsNone(diary.forget(number=0))
        self.stands(diary, done=2)

    def test_no_saying(self):
        diary = heard(DUO, before("x z"), before("y z"))
        for value in any_values():
            if type(value) is not int or value not in (0, 1):
                refuses(self, NoSaying, value, diary.forget, value)
                refuses(self, NoSaying, value, diary.forget, number=value)
        for value in (2, -1, -2, True, False, (0,), [0], "0", None, 10 ** 11):
            refuses(self, NoSaying, value, diary.forget, value)
        self.stands(diary, before("x z"), before("y z"))
        refuses(self, NoSaying, 0, Diary(DUO).forget, 0)

    def test_what_was_contrary_may_be_heard(self):
        diary = heard(APART, AB)
        raised(self, Contrary, diary.hear, before("b a"))
        diary.forget(0)
        diary.hear(before("b a"))
        self.stands(diary, before("b a"), done=3)


class AskedTest(DiariesTest):
    def test_just_what_the_functions_tell(self):
        diary = heard(HALL, before("ann cyd"))
        for _ in range(2):
            self.assertEqual(diary.surely(), surely(diary.book))
            for claim in (before("bob cyd"), ("there", ("bob", "in"), "ann"), ("within", "cyd", "ann"),
                          ("met", "cyd", "dan")):
                told = diary.judged(claim)
                self.assertEqual(told, judged(diary.book, claim))
                self.assertIs(shows_judged(diary.book, claim, told), True)
                self.assertEqual(diary.judged(claim=claim), told)
            diary.hear(("met", "cyd", "dan"))
        self.assertEqual(diary.surely(), (("ann", "cyd"), ("ann", "dan"), ("bob", "dan")))

    def test_bad_claims(self):
        diary = heard(DUO, before("x z"))
        for value in [*any_values(), *nearly_sayings(), *nearly_claims()]:
            if value not in CLAIMS:
                refuses(self, BadClaim, value, diary.judged, value)
                refuses(self, BadClaim, value, Diary(FOUR.hall).judged, value)
        self.stands(diary, before("x z"))

    def test_a_hall_that_no_timeline_keeps(self):
        for hall in (FOUR.hall, Hall(NET)):
            diary = Diary(hall)
            names = hall.people
            for saying in (("met", names[0], names[1]), ("not", names[0], names[1]), before(f"{names[0]} {names[2]}-")):
                tree = raised(self, Contrary, diary.hear, saying)
                self.assertTrue(tree_fits(hall, (saying,), tree))
                self.assertEqual(raised(self, NoTimeline, diary.judged, saying), Book(hall))
            self.assertEqual(raised(self, NoTimeline, diary.surely), Book(hall))
            self.stands(diary)
            for value in (0, None):
                refuses(self, NoSaying, value, diary.forget, value)
            self.assertEqual(many(diary.book), 0)
            with diary.trial() as held:
                held.keep()
            self.assertEqual(diary.copy(), diary)


class UndoTest(DiariesTest):
    def test_nothing(self):
        diary = Diary(APART)
        self.assertIsNone(raised(self, NothingToUndo, diary.undo))
        self.assertIsNone(raised(self, NothingToRedo, diary.redo))
        diary.hear(AB)
        self.assertIsNone(raised(self, NothingToRedo, diary.redo))
        self.stands(diary, AB)

    def test_back_and_forth(self):
        diary = heard(APART, AB, BC)
        diary.forget(0)
        diary.hear(before("a- c-"))
        states = [(), (AB,), (AB, BC), (BC,), (BC, before("a- c-"))]
        for _ in range(2):
            for done in (3, 2, 1, 0):
                self.assertIsNone(diary.undo())
                self.stands(diary, *states[done], done=done)
                self.can_redo(diary, 4 - done)
                self.can_undo(diary)
            raised(self, NothingToUndo, diary.undo)
            for done in (1, 2, 3, 4):
                self.assertIsNone(diary.redo())
                self.stands(diary, *states[done], done=done)
            raised(self, NothingToRedo, diary.redo)

    def test_a_new_deed_ends_redo(self):
        diary = heard(APART, AB, BC)
        diary.undo()
        diary.undo()
        diary.hear(BC)
        self.stands(diary, BC)
        self.can_redo(diary, 0)
        diary.undo()
        self.can_redo(diary, 1)
        diary.redo()
        diary.undo()
        diary.hear(AB)
        diary.hear(BC)
        diary.undo()
        diary.forget(0)
        self.stands(diary, done=2)
        self.can_redo(diary, 0)
        self.can_undo(diary)

    def test_the_same_deed_again_ends_redo_too(self):
        diary = heard(APART, AB, BC)
        diary.undo()
        diary.undo()
        diary.hear(AB)
        self.can_redo(diary, 0)

    def test_asking_does_not_end_redo(self):
        diary = heard(APART, AB, BC)
        diary.undo()
        diary.surely()
        diary.judged(BC)
        raised(self, BadClaim, diary.judged, None)
        raised(self, NoTrial, diary.keep)
        with diary.trial():
            diary.hear(BC)
        self.can_redo(diary, 1)


class TrialTest(DiariesTest):
    def test_behind_the_block_it_is_as_it_was(self):
        diary = heard(APART, AB)
        with diary.trial() as held:
            self.assertIs(held, diary)
            held.hear(BC)
            self.stands(diary, AB, BC)
        self.stands(diary, AB)
        self.can_redo(diary, 0)
        self.can_undo(diary)

    def test_kept(self):
        diary = heard(APART, AB)
        with diary.trial() as held:
            held.hear(BC)
            self.assertIsNone(held.keep())
            held.hear(AB)
        self.stands(diary, AB, BC, AB)
        self.can_undo(diary)
        self.assertIsNone(raised(self, NoTrial, diary.keep))

    def test_kept_twice_is_kept(self):
        diary = Diary(APART)
        with diary.trial() as held:
            held.keep()
            held.hear(BC)
            held.keep()
        self.stands(diary, BC)

    def test_what_can_be_undone_and_done_again_is_as_it_was(self):
        diary = heard(APART, AB, BC, AB)
        diary.undo()
        with diary.trial():
            diary.undo()
            diary.hear(before("a- c-"))
            self.can_redo(diary, 0)
        self.stands(diary, AB, BC)
        self.can_redo(diary, 1)
        with diary.trial():
            diary.redo()
        self.stands(diary, AB, BC)
        self.can_redo(diary, 1)

    def test_undo_takes_deeds_ahead_of_the_block_back(self):
        diary = heard(APART, AB, BC)
        with diary.trial():
            diary.undo()
            diary.undo()
            self.stands(diary)
            raised(self, NothingToUndo, diary.undo)
            self.can_redo(diary, 2)
        self.stands(diary, AB, BC)
        with diary.trial():
            diary.undo()
            diary.keep()
        self.stands(diary, AB)
        self.can_redo(diary, 1)

    def test_entered_when_it_is_entered(self):
        diary = Diary(APART)
        block = diary.trial()
        diary.hear(AB)
        self.assertIsNone(raised(self, NoTrial, diary.keep))
        with block:
            diary.hear(BC)
        self.stands(diary, AB)

    def test_errors_leave_it_as_it_was(self):
        diary = heard(APART, AB, BC)
        diary.undo()
        for keep in (False, True):
            with self.assertRaises(Wrong):
                with diary.trial():
                    diary.hear(before("a- c-"))
                    if keep:
                        diary.keep()
                    raise Wrong
            self.stands(diary, AB)
            self.can_redo(diary, 1)
            self.assertIsNone(raised(self, NoTrial, diary.keep))

    def test_errors_of_the_diary_pass_on_too(self):
        diary = heard(APART, AB)
        for kind, call in ((BadSaying, lambda: diary.hear(1)), (Contrary, lambda: diary.hear(before("b a"))),
                           (NoSaying, lambda: diary.forget(9)), (NothingToRedo, diary.redo),
                           (BadClaim, lambda: diary.judged(()))):
            with self.assertRaises(kind):
                with diary.trial() as held:
                    held.hear(BC)
                    held.keep()
                    call()
            self.stands(diary, AB)

    def test_an_error_that_is_caught_within_the_block(self):
        diary = Diary(APART)
        with diary.trial():
            diary.hear(AB)
            raised(self, BadSaying, diary.hear, None)
            diary.keep()
        self.stands(diary, AB)


class NestedTest(DiariesTest):
    def run_blocks(self, diary, kept):
        """Blocks one within another, kept or not, a deed ahead of and behind each inner one."""
        if kept:
            with diary.trial():
                diary.hear(AB)
                self.run_blocks(diary, kept[1:])
                diary.hear(BC)
                if kept[0]:
                    diary.keep()

    def left_by(self, kept):
        """The sayings that blocks so nested leave."""
        return [AB, *self.left_by(kept[1:]), BC] if kept and kept[0] else []

    def test_up_to_five_deep(self):
        for depth in (1, 2, 3, 5):
            for number in range(2 ** depth):
                kept = [bool(number >> at & 1) for at in range(depth)]
                diary = heard(APART, BC)
                self.run_blocks(diary, kept)
                self.stands(diary, BC, *self.left_by(kept))
                self.assertIsNone(raised(self, NoTrial, diary.keep))
                self.can_undo(diary)
                self.can_redo(diary, 0)

    def test_keep_is_for_the_innermost_one_that_is_open(self):
        diary = Diary(APART)
        with diary.trial():
            diary.hear(AB)
            with diary.trial():
                diary.hear(BC)
                diary.keep()
            self.stands(diary, AB, BC)
        self.stands(diary)
        with diary.trial():
            diary.hear(AB)
            with diary.trial():
                diary.hear(BC)
            self.stands(diary, AB)
            diary.keep()
        self.stands(diary, AB)
        with diary.trial():
            diary.keep()
            with diary.trial():
                diary.hear(BC)
        self.stands(diary, AB)

    def test_an_error_that_leaves_the_inner_one_only(self):
        diary = Diary(APART)
        with diary.trial():
            diary.hear(AB)
            with self.assertRaises(Wrong):
                with diary.trial():
                    diary.hear(BC)
                    diary.keep()
                    raise Wrong
            self.stands(diary, AB)
            diary.keep()
        self.stands(diary, AB)

    def test_an_error_that_leaves_both(self):
        diary = heard(APART, BC)
        with self.assertRaises(Wrong):
            with diary.trial():
                diary.keep()
                diary.hear(AB)
                with diary.trial():
                    diary.keep()
                    diary.hear(BC)
                    raise Wrong
        self.stands(diary, BC)
        raised(self, NoTrial, diary.keep)

    def test_undo_in_an_inner_block(self):
        diary = heard(APART, AB)
        with diary.trial():
            diary.hear(BC)
            with diary.trial():
                diary.undo()
                diary.undo()
                diary.hear(before("a- c-"))
                diary.keep()
            self.stands(diary, before("a- c-"))
            diary.keep()
        self.stands(diary, before("a- c-"))
        self.can_undo(diary)

    def test_blocks_of_two_diaries(self):
        one, other = Diary(APART), Diary(APART)
        with one.trial():
            with other.trial():
                one.hear(AB)
                other.hear(BC)
                one.keep()
        self.stands(one, AB)
        self.stands(other)


class TriedTest(DiariesTest):
    def test_what_the_look_returned(self):
        diary = heard(APART, AB)
        value = ["x"]
        self.assertIs(diary.tried(lambda held: value), value)
        self.assertIs(diary.tried(lambda held: held), diary)
        self.assertIs(diary.tried(look=lambda held: None), None)
        self.assertEqual(diary.tried(len, keep=True), 1)

    def test_kept_for_true_only(self):
        values = [True, False, 1, 0, None, "True", (True,), [True], "", 2, -1, (), DUO, Book(DUO)]
        for value in values:
            diary = heard(APART, AB)
            diary.tried(lambda held: held.hear(BC), keep=value)
            self.stands(diary, *((AB, BC) if value is True else (AB,)))
            self.can_redo(diary, 0)
            self.can_undo(diary)
        diary = heard(APART, AB)
        diary.tried(lambda held: held.hear(BC))
        self.stands(diary, AB)

    def test_keep_stands_behind_the_star(self):
        diary = Diary(APART)
        with self.assertRaises(TypeError):
            diary.tried(len, True)
        self.stands(diary)

    def test_kept_if_the_look_calls_keep(self):
        for value in (False, True, 1, None):
            diary = Diary(APART)
            diary.tried(lambda held: (held.hear(AB), held.keep()), keep=value)
            self.stands(diary, AB)
            raised(self, NoTrial, diary.keep)

    def test_errors_pass_on(self):
        def look(held):
            held.hear(BC)
            held.keep()
            raise Wrong

        diary = heard(APART, AB)
        for value in (False, True):
            with self.assertRaises(Wrong):
                diary.tried(look, keep=value)
            self.stands(diary, AB)
            raised(self, NoTrial, diary.keep)
            tree = raised(self, Contrary, diary.tried, lambda held: held.hear(before("b a")), keep=value)
            self.assertTrue(tree_fits(APART, (AB, before("b a")), tree))
            self.stands(diary, AB)

    def test_looks_within_looks(self):
        diary = Diary(APART)

        def outer(held):
            held.hear(AB)
            held.tried(lambda inner: inner.hear(BC), keep=True)
            held.tried(lambda inner: inner.undo())
            return len(held)

        self.assertEqual(diary.tried(outer), 2)
        self.stands(diary)
        self.assertEqual(diary.tried(outer, keep=True), 2)
        self.stands(diary, AB, BC)

    def test_what_a_look_did_elsewhere_stays(self):
        diary, other = Diary(APART), Diary(APART)
        diary.tried(lambda held: (held.hear(AB), other.hear(BC)))
        self.stands(diary)
        self.stands(other, BC)


class CopyTest(DiariesTest):
    def test_alike_in_all_of_this(self):
        diary = heard(APART, AB, BC, AB)
        diary.forget(0)
        diary.undo()
        diary.undo()
        other = diary.copy()
        self.assertIsInstance(other, Diary)
        self.assertIs(other.hall, diary.hall)
        self.stands(other, AB, BC)
        self.can_redo(other, 2)
        self.can_undo(other)

    def test_independent(self):
        diary = heard(APART, AB, BC)
        other = diary.copy()
        other.undo()
        other.hear(AB)
        self.stands(diary, AB, BC)
        self.stands(other, AB, AB)
        diary.forget(1)
        diary.undo()
        self.can_redo(diary, 1)
        self.can_redo(other, 0)
        self.stands(other, AB, AB)

    def test_made_within_a_block(self):
        diary = heard(APART, AB)
        with diary.trial():
            diary.hear(BC)
            other = diary.copy()
            self.assertIsNone(raised(self, NoTrial, other.keep))
            with other.trial():
                other.hear(AB)
                self.assertIsNone(other.keep())
            raised(self, NoTrial, other.keep)
        self.stands(diary, AB)
        self.stands(other, AB, BC, AB)
        self.can_undo(other)

    def test_a_block_of_the_copy_is_not_one_of_the_other(self):
        diary = Diary(APART)
        other = diary.copy()
        with other.trial():
            self.assertIsNone(raised(self, NoTrial, diary.keep))
            diary.hear(AB)
        self.stands(diary, AB)
        self.stands(other)


class EqualTest(DiariesTest):
    def test_if_their_books_are(self):
        diary = heard(APART, AB, BC)
        other = heard(Hall(APART.text), BC, AB, BC)
        self.assertFalse(diary == other)
        other.forget(0)
        self.assertTrue(diary == other)
        self.assertFalse(diary != other)
        other.undo()
        self.assertTrue(diary != other)
        self.assertTrue(Diary(DUO) == Diary(Hall(DUO.text)))
        for text in ("people x y z", "people x y z\nmet y x", "people x y z\nmet x y\nmet x y"):
            self.assertFalse(Diary(DUO) == Diary(Hall(text)))
        self.assertFalse(heard(APART, AB, BC) == heard(APART, BC, AB))
        self.assertFalse(heard(APART, ("not", "a", "b")) == heard(APART, ("not", "b", "a")))

    def test_equal_to_nothing_else(self):
        diary = heard(DUO, before("x z"))
        for value in [*any_values(), diary.book, diary.hall, (diary,), diary.book.sayings, 1]:
            self.assertIs(diary == value, False)
            self.assertIs(value == diary, False)
            self.assertIs(diary != value, True)
        self.assertTrue(diary == diary)

    def test_within_blocks(self):
        diary = heard(APART, AB)
        with diary.trial():
            self.assertTrue(diary == heard(APART, AB))

    def test_as_any_value(self):
        diary = heard(DUO, before("x z"))
        for value in (diary, (diary, "in"), [diary], ("met", diary, "x"), {"x": diary}):
            refuses(self, BadSaying, value, diary.hear, value)
            refuses(self, NoSaying, value, diary.forget, value)
            refuses(self, BadClaim, value, diary.judged, value)
        self.stands(diary, before("x z"))


class UnchangedTest(DiariesTest):
    def test_each_kind_of_error_leaves_it_as_it_was(self):
        diary = heard(DUO, *[before("x z")] * 30)
        for words in ("y z", "y- z-"):
            diary.forget(0)
            diary.hear(before(words))
        diary.undo()
        book, done = diary.book, diary.done
        sayings = book.sayings
        for call, value in ((diary.hear, None), (diary.hear, ["met", "x", "y"]), (diary.forget, -1),
                            (diary.forget, True),
                            (diary.judged, ("met", "x", "x")), (diary.hear, before("z x")), (diary.forget, 30)):
            with self.assertRaises(MeetError):
                call(value)
            self.stands(diary, *sayings, done=done)
            self.can_redo(diary, 1)
            self.can_undo(diary)
        diary.redo()
        raised(self, NothingToRedo, diary.redo)
        raised(self, Full, diary.hear, before("x z"))
        raised(self, NoTrial, diary.keep)
        self.stands(diary, *sayings, before("y- z-"), done=done + 1)
        self.can_undo(diary)

    def test_books_that_were_read_do_not_change(self):
        diary = heard(APART, AB)
        book = diary.book
        diary.hear(BC)
        diary.forget(0)
        self.assertEqual(book, Book(APART, (AB,)))
        diary.undo()
        diary.undo()
        self.assertEqual(diary.book, book)

    def test_arguments_are_not_changed(self):
        diary = Diary(APART)
        value = ["before", ["a", "in"], ["b", "in"]]
        kept = copy.deepcopy(value)
        for kind, call in ((BadSaying, diary.hear), (NoSaying, diary.forget), (BadClaim, diary.judged)):
            refuses(self, kind, value, call, value)
            self.assertEqual(value, kept)


if __name__ == "__main__":
    unittest.main()
