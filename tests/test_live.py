"""Points 15 and 16 on drawn diaries, and point 3, (a) to (f), over the whole program."""

import random
import unittest

from metonce.books import Book
from metonce.choosing import cheapest
from metonce.desk import Desk
from metonce.diaries import Diary
from metonce.errors import Contrary, NothingToRedo, NothingToUndo, NoTimeline, NoTrial
from metonce.journals import journal, read_journal
from metonce.orders import many
from tests.answers import (claim_holds, fits_any, judged_is_right, orders_of, tree_fits, word_of)
from tests.changes import (book_without, renamed, renamed_book, turned_book, turned_claim, turned_order, turned_saying)
from tests.draws import draw_book, draw_claim, draw_line_with_book, draw_saying
from tests.looks import left_before
from tests.samples import raised
from tests.test_drawn_questions import fitting_lines

FRESH = ("zoe", "yul", "xi", "wim", "val", "ulf", "tom", "sam", "rob")


class Stop(Exception):
    """An error of the tests' own, that leaves a block."""


class Told:
    """What a diary ought to be: the sayings behind each deed, how many stand, and the lines of the deeds."""

    def __init__(self):
        self.states = [()]
        self.lines = []
        self.done = 0

    def twin(self):
        other = Told()
        other.states, other.lines, other.done = list(self.states), list(self.lines), self.done
        return other

    @property
    def sayings(self):
        return self.states[self.done]

    def do(self, line, sayings):
        self.states[self.done + 1:] = [sayings]
        self.lines[self.done:] = [line]
        self.done += 1


def line_of_saying(saying):
    word, *told = saying
    return " ".join([word, *[part if isinstance(part, str) else " ".join(part) for part in told]])


def draw_hall_to_play(source, people):
    if source.random() < 0.8:
        return draw_line_with_book(source, people, source.randrange(5), 0)[1].hall
    return draw_book(source, people, 3, 0).hall


class Play:
    """A going on with a diary by drawn deeds, which are also done on what is told of it."""

    def __init__(self, test, source, diary, told):
        self.test, self.source, self.diary, self.told = test, source, diary, told

    def hear(self):
        hall = self.diary.hall
        if len(hall) == 1:
            return
        saying = draw_saying(self.source, hall.people)
        more = (*self.told.sayings, saying)
        if len(more) > 30:
            return
        if fits_any(hall, more):
            self.diary.hear(saying)
            self.told.do(line_of_saying(saying), more)
        else:
            tree = raised(self.test, Contrary, self.diary.hear, saying)
            self.test.assertTrue(tree_fits(hall, more, tree))

    def forget(self):
        if self.told.sayings:
            number = self.source.randrange(len(self.told.sayings))
            self.diary.forget(number)
            self.told.do(f"forget {number}", self.told.sayings[:number] + self.told.sayings[number + 1:])

    def undo(self):
        if self.told.done == 0:
            raised(self.test, NothingToUndo, self.diary.undo)
        else:
            self.diary.undo()
            self.told.done -= 1

    def redo(self):
        if self.told.done == len(self.told.lines):
            raised(self.test, NothingToRedo, self.diary.redo)
        else:
            self.diary.redo()
            self.told.done += 1

    def copy(self):
        other = Play(self.test, self.source, self.diary.copy(), self.told.twin())
        raised(self.test, NoTrial, other.diary.keep)
        for _ in range(3):
            other.step(0)

    def block(self, depth):
        ahead = self.told.twin()
        how = self.source.choice(("keep", "leave", "error", "tried", "tried to keep"))
        try:
            if how in ("tried", "tried to keep"):
                self.diary.tried(lambda held: self.steps(depth - 1), keep=how == "tried to keep")
            else:
                with self.diary.trial() as held:
                    self.test.assertIs(held, self.diary)
                    self.steps(depth - 1)
                    if how != "leave":
                        held.keep()
                    if how == "error":
                        raise Stop
                    self.steps(depth - 1)
        except Stop:
            self.test.assertEqual(how, "error")
        if how in ("leave", "error", "tried"):
            self.told = ahead

    def steps(self, depth):
        for _ in range(self.source.randrange(1, 4)):
            self.step(depth)

    def step(self, depth):
        word = self.source.choice(("hear",) * 5 + ("forget", "undo", "redo", "copy", "block", "block"))
        if word == "block":
            if depth:
                self.block(depth)
        else:
            getattr(self, word)()
        self.look()

    def look(self):
        diary, told = self.diary, self.told
        self.test.assertEqual(diary.book, Book(diary.hall, told.sayings))
        self.test.assertEqual((diary.done, len(diary)), (told.done, len(told.sayings)))
        self.test.assertEqual(journal(diary).split("\n"),
                              [*diary.hall.text.split("\n"), "heard", *told.lines[:told.done]])


class DrawnDiariesTest(unittest.TestCase):
    def plays(self, seed, people=(1, 2, 3, 4, 5, 7, 9), count=6, depth=3, steps=14):
        source = random.Random(seed)
        for many_people in people:
            for _ in range(count):
                play = Play(self, source, Diary(draw_hall_to_play(source, many_people)), Told())
                for _ in range(steps):
                    play.step(depth)
                yield source, play

    def test_a_diary_is_where_its_deeds_led(self):
        deeds = 0
        for _, play in self.plays(71):
            raised(self, NoTrial, play.diary.keep)
            deeds += play.diary.done
            self.all_can_be_undone_and_done_again(play.diary, play.told)
        self.assertGreater(deeds, 100)

    def all_can_be_undone_and_done_again(self, diary, told):
        twin = diary.copy()
        while twin.done < len(told.lines):
            twin.redo()
        raised(self, NothingToRedo, twin.redo)
        for sayings in told.states[::-1]:
            self.assertEqual(twin.book.sayings, sayings)
            if sayings or twin.done:
                twin.undo()
        raised(self, NothingToUndo, twin.undo)

    def test_blocks_five_deep(self):
        for _, play in self.plays(72, people=(3, 4, 6), count=4, depth=5, steps=8):
            self.all_can_be_undone_and_done_again(play.diary, play.told)

    def test_a_journal_is_read_back_and_goes_on_alike(self):
        for source, play in self.plays(73):
            diary = play.diary
            other = read_journal(journal(diary))
            desk = Desk(journal(diary))
            self.assertEqual((other, other.done, desk.diary), (diary, diary.done, diary))
            raised(self, NothingToRedo, other.redo)
            told = play.told.twin()
            del told.states[told.done + 1:], told.lines[told.done:]
            going = Play(self, source, other, told)
            for _ in range(6):
                going.step(2)
            # The same deeds on the first one, done by lines, lead to where the other one is now.
            lines = going.told.lines[:other.done]
            while play.told.lines[:desk.diary.done] != lines[:desk.diary.done]:
                self.assertEqual(desk.say("undo"), "ok")
            for line in lines[desk.diary.done:]:
                self.assertEqual(desk.say(line), "ok")
            self.assertEqual(journal(desk.diary), journal(other))
            self.assertEqual(desk.diary, other)

    def test_undone_to_the_start_it_is_read_back_too(self):
        for _, play in self.plays(74, count=3):
            while play.diary.done:
                play.diary.undo()
                self.assertEqual(read_journal(journal(play.diary)), play.diary)

    def test_beside_all_timelines(self):
        words = []
        for source, play in self.plays(75, people=(2, 3, 3, 4, 4), count=8):
            diary = play.diary
            lines = fitting_lines(diary.book)
            orders = [left_before(line) for line in lines]
            self.assertEqual(many(diary.book), len(set(map(frozenset, orders))))
            claim = draw_claim(source, diary.hall.people)
            if not lines:
                self.assertEqual(raised(self, NoTimeline, diary.surely), Book(diary.hall))
                self.assertEqual(raised(self, NoTimeline, diary.judged, claim), Book(diary.hall))
                continue
            self.assertEqual(diary.surely(), tuple(sorted(set.intersection(*orders))))
            so = {claim_holds(line, claim) for line in lines}
            words.append(diary.judged(claim)[0])
            self.assertEqual(words[-1], "open" if len(so) == 2 else "always" if True in so else "never")
            self.assertTrue(judged_is_right(diary.book, claim, diary.judged(claim)))
            offers = {draw_saying(source, diary.hall.people): source.randrange(1, 10) for _ in range(3)}
            self.cheapest_settles(diary.book, tuple(sorted(offers.items())), claim)
        self.assertGreater(min(words.count(word) for word in ("always", "never", "open")), 2)

    def cheapest_settles(self, book, offers, claim):
        for word in ("always", "never", "open"):
            told = cheapest(book, offers, ((claim, word),))
            if told[0] == "choice":
                lines = fitting_lines(Book(book.hall, (*book.sayings, *[saying for saying, _ in told[2]])))
                so = {claim_holds(line, claim) for line in lines}
                self.assertEqual(word, "open" if len(so) == 2 else "always" if True in so else "never")

    def test_up_to_nine_people(self):
        for source, play in self.plays(76, people=(5, 6, 7, 8, 9), count=4, steps=20):
            diary = play.diary
            if not fits_any(diary.hall, diary.book.sayings):
                raised(self, NoTimeline, diary.surely)
                continue
            for _ in range(3):
                claim = draw_claim(source, diary.hall.people)
                told = diary.judged(claim)
                self.assertEqual(told[0], word_of(diary.hall, diary.book.sayings, claim))
                self.assertTrue(judged_is_right(diary.book, claim, told))
            pairs = diary.surely()
            for one in diary.hall.people:
                for other in diary.hall.people:
                    if one != other:
                        against = (*diary.book.sayings, ("before", (other, "in"), (one, "out")))
                        self.assertEqual((one, other) in pairs, not fits_any(diary.hall, against))
            if many(diary.book) <= 500:
                self.assertEqual(many(diary.book), len(set(orders_of(diary.hall, diary.book.sayings))))


class GuaranteesTest(unittest.TestCase):
    """Diaries that heard what a drawn timeline tells: their hall has a timeline."""

    def diaries(self, seed, count=5):
        source = random.Random(seed)
        for people in (2, 3, 4, 5, 6, 7, 9):
            for _ in range(count):
                book = draw_line_with_book(source, people, source.randrange(4), source.choice((1, 3, 6)))[1]
                yield source, self.diary_of(book)

    def diary_of(self, book):
        diary = Diary(book.hall)
        for saying in book.sayings:
            diary.hear(saying)
        self.assertEqual(diary.book, book)
        return diary

    def test_all_timelines(self):
        for source, diary in self.diaries(81):
            for number, order in zip(range(20), orders_of(diary.hall, diary.book.sayings)):
                self.assertLessEqual(set(diary.surely()), set(order), number)

    def test_backward(self):
        for source, diary in self.diaries(82):
            back = self.diary_of(turned_book(diary.book))
            self.assertEqual(back.surely(), turned_order(diary.surely()))
            self.assertEqual(many(back.book), many(diary.book))
            for _ in range(3):
                claim = draw_claim(source, diary.hall.people)
                self.assertEqual(back.judged(turned_claim(claim))[0], diary.judged(claim)[0])
            self.hear_alike(source, diary, back, turned_saying)

    def hear_alike(self, source, diary, other, changed):
        """What one refuses the other one refuses, too."""
        saying = draw_saying(source, diary.hall.people)
        if fits_any(diary.hall, (*diary.book.sayings, saying)):
            other.hear(changed(saying))
            self.assertEqual(len(other), len(diary) + 1)
        else:
            raised(self, Contrary, other.hear, changed(saying))

    def test_more_heard(self):
        for source, diary in self.diaries(83):
            claims = [draw_claim(source, diary.hall.people) for _ in range(4)]
            for _ in range(4):
                pairs, count = set(diary.surely()), many(diary.book)
                words = [diary.judged(claim)[0] for claim in claims]
                saying = draw_saying(source, diary.hall.people)
                if fits_any(diary.hall, (*diary.book.sayings, saying)):
                    diary.hear(saying)
                    self.assertLessEqual(pairs, set(diary.surely()))
                    self.assertLessEqual(many(diary.book), count)
                    for claim, word in zip(claims, words):
                        self.assertIn(word, (diary.judged(claim)[0], "open"))

    def test_other_names(self):
        for source, diary in self.diaries(84):
            fresh = source.sample(FRESH, len(diary.hall))
            names = dict(zip(diary.hall.people, fresh))
            other = self.diary_of(renamed_book(diary.book, names, source.sample(fresh, len(fresh))))
            self.assertEqual(other.surely(), tuple(sorted(renamed(diary.surely(), names))))
            self.assertEqual(many(other.book), many(diary.book))
            for _ in range(3):
                claim = draw_claim(source, diary.hall.people)
                self.assertEqual(other.judged(renamed(claim, names))[0], diary.judged(claim)[0])
            self.hear_alike(source, diary, other, lambda saying, told=names: renamed(saying, told))

    def test_one_person_less(self):
        for source, diary in self.diaries(85):
            if len(diary.hall) < 3:
                continue
            fewer = self.diary_of(book_without(diary.book, source.choice(diary.hall.people)))
            self.assertLessEqual(set(fewer.surely()), set(diary.surely()))
            for _ in range(4):
                claim = draw_claim(source, fewer.hall.people)
                self.assertIn(fewer.judged(claim)[0], (diary.judged(claim)[0], "open"))

    def test_what_is_undone_or_not_kept_leaves_nothing(self):
        for source, diary in self.diaries(86):
            text, twin = journal(diary), self.diary_of(diary.book)
            claim = draw_claim(source, diary.hall.people)
            with diary.trial():
                diary.forget(0)
                diary.undo()
                diary.undo()
                if len(diary):
                    diary.forget(0)
            diary.forget(0)
            diary.undo()
            self.assertEqual((journal(diary), diary), (text, twin))
            self.assertEqual(diary.judged(claim), twin.judged(claim))
            self.assertEqual(diary.surely(), twin.surely())
            self.assertEqual(read_journal(text), diary)


if __name__ == "__main__":
    unittest.main()
