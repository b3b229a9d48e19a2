"""Points 8 and 9 on drawn halls: beside a going through all timelines, and by a look of the test's own."""

import random
import unittest
from functools import lru_cache

from metonce.books import Book
from metonce.cases import barred, shows_barred, sure
from metonce.errors import NoTimeline
from metonce.halls import Hall
from metonce.possible import possible, shows_possible, surely, suspects
from tests.draws import draw_book, draw_change, draw_saying, draw_tree_hall
from tests.looks import Room, all_cases, barred_is_right, left_before, line_holds, line_is_right, possible_is_right
from tests.samples import all_sayings, all_timelines, raised


@lru_cache(maxsize=None)
def known_lines(people):
    """All timelines of these people, each with all sayings that are so in it, and its order."""
    sayings = all_sayings(people)
    return [(line, {saying for saying in sayings if line_holds(line, saying)}, left_before(line))
            for line in all_timelines(people)]


def orders_of(book, cases):
    """The orders of all timelines that fit in these cases, each as often as there are such timelines."""
    room = Room(book.hall.text, cases)
    people = tuple(sorted(room.people))
    told = {("met" if room.meet(one, other) else "not", one, other)
            for one in people for other in people if one != other}
    wanted = told | set(book.sayings)
    return [order for line, so, order in known_lines(people) if wanted <= so]


def in_all(orders):
    return tuple(sorted(set.intersection(*orders)))


class AllTimelinesTest(unittest.TestCase):
    """Halls of up to four people, three lines open and six sayings."""

    def compare(self, book):
        orders = []
        for cases in all_cases(book.hall):
            found = orders_of(book, cases)
            orders += found
            told = barred(book, cases)
            self.assertEqual(told[0] == "timeline", found != [], (book.hall.text, book.sayings, cases))
            self.assertTrue(barred_is_right(book, cases, told))
            self.assertIs(shows_barred(book, cases, told), True)
            if found:
                self.assertEqual(sure(book, cases), in_all(found), (book.hall.text, book.sayings, cases))
            else:
                self.assertIs(raised(self, NoTimeline, sure, book, cases), cases)
        told = possible(book)
        self.assertEqual(told[0] == "timeline", orders != [])
        self.assertTrue(possible_is_right(book, told))
        self.assertIs(shows_possible(book, told), True)
        if orders:
            self.assertEqual(surely(book), in_all(orders), (book.hall.text, book.sayings))
        else:
            self.assertIs(raised(self, NoTimeline, surely, book), book)
        return told[0] if told[0] == "timeline" else told[1][0]

    def test_drawn_halls(self):
        source = random.Random(5)
        words = [self.compare(draw_book(source, people, 3, 6)) for people in (1, 2, 3, 3, 4, 4, 4) for _ in range(60)]
        self.assertLessEqual({"timeline", "said", "rows", "round", "ask"}, set(words))

    def test_who_met_of_four(self):
        pairs = ("a b", "a c", "a d", "b c", "b d", "c d")
        words = []
        for number in range(64):
            met = [f"met {pair}" for at, pair in enumerate(pairs) if number >> at & 1]
            words.append(self.compare(Book(Hall("\n".join(["people d b a c", *met])))))
        self.assertEqual((words.count("timeline"), words.count("ring")), (61, 3))

    def test_which_timelines_are_shown(self):
        source = random.Random(6)
        for people in (2, 3, 3, 4):
            for _ in range(6):
                book = draw_book(source, people, 3, 2)
                rooms = [(cases, Room(book.hall.text, cases)) for cases in all_cases(book.hall)]
                for line in source.sample(all_timelines(tuple(sorted(book.hall.people))), 6):
                    fits = False
                    for cases, room in rooms:
                        right = line_is_right(room, book.sayings, line)
                        fits = fits or right
                        self.assertIs(shows_barred(book, cases, ("timeline", line)), right)
                    self.assertIs(shows_possible(book, ("timeline", line)), fits)
                    self.assertIs(book.fits(line), fits)

    def test_suspects(self):
        source = random.Random(7)
        for people in (2, 3, 4, 4):
            for _ in range(10):
                hall = draw_book(source, people, 3, 0).hall
                without = [(name, Book(hall.without(name))) for name in hall.people]
                self.assertEqual(suspects(hall), tuple(
                    name for name, book in without if any(orders_of(book, cases) for cases in all_cases(book.hall))))


class LookTest(unittest.TestCase):
    """Halls of up to nine people: what is told is right, and of changed values the look tells the same."""

    def look(self, book):
        told = possible(book)
        self.assertTrue(possible_is_right(book, told), (book.hall.text, book.sayings, told))
        self.assertIs(shows_possible(book, told), True)
        for cases in all_cases(book.hall):
            shown = barred(book, cases)
            self.assertTrue(barred_is_right(book, cases, shown), (book.hall.text, book.sayings, cases, shown))
            self.assertIs(shows_barred(book, cases, shown), True)
        return told

    def test_drawn_halls(self):
        source = random.Random(8)
        for people in (5, 6, 7, 8, 9, 9):
            for _ in range(40):
                self.look(draw_book(source, people, 4, source.choice((0, 2, 4, 8, 30))))

    def test_nine_people_four_lines_open_and_thirty_sayings(self):
        source = random.Random(9)
        words = []
        for _ in range(12):
            book = draw_book(source, 9, 4, 0)
            line = possible(book)
            sayings = tuple(saying for saying in [draw_saying(source, book.hall.people) for _ in range(400)]
                            if line[0] == "none" or line_holds(line[1], saying))[:30]
            words.append(self.look(Book(book.hall, sayings))[0])
        self.assertEqual(set(words), {"timeline", "none"})

    def test_trees_of_people(self):
        source = random.Random(10)
        words = []
        for people in (7, 8, 9):
            for _ in range(25):
                told = self.look(Book(draw_tree_hall(source, people)))
                words.append(told[1][0] if told[0] == "none" else told[0])
        self.assertEqual(set(words), {"timeline", "three"})

    def test_rings_with_more_people(self):
        source = random.Random(11)
        for many in (4, 5, 6, 7):
            ring, more = "abcdefg"[:many], "vwxyz"[:9 - many]
            met = [f"met {ring[at - 1]} {ring[at]}" for at in range(many)]
            met += [f"met {one} {source.choice(ring + more[:at])}" for at, one in enumerate(more) if at]
            self.assertEqual(self.look(Book(Hall("\n".join(["people " + " ".join(ring + more), *met]))))[0], "none")

    def test_sure_shown_both_ways(self):
        source = random.Random(12)
        for people in (5, 7, 9):
            for _ in range(6):
                book = draw_book(source, people, 2, 3)
                if possible(book)[0] == "none":
                    continue
                pairs = surely(book)
                for one in book.hall.people:
                    for other in book.hall.people:
                        if one != other:
                            turned = book + ("before", (other, "in"), (one, "out"))
                            self.assertEqual(possible(turned)[0] == "none", (one, other) in pairs)
                            self.look(turned)

    def test_changed_values(self):
        source = random.Random(13)
        seen = {True: 0, False: 0}
        for people in (3, 4, 5, 6, 9):
            for _ in range(60):
                book = draw_book(source, people, 2, 8)
                value = possible(book)
                for _ in range(12):
                    changed = draw_change(source, value, book.hall.people)
                    right = possible_is_right(book, changed)
                    seen[right] += 1
                    self.assertIs(shows_possible(book, changed), right, (book.hall.text, book.sayings, changed))
                    cases = source.choice(all_cases(book.hall))
                    shown = draw_change(source, barred(book, cases), book.hall.people)
                    self.assertIs(shows_barred(book, cases, shown), barred_is_right(book, cases, shown),
                                  (book.hall.text, book.sayings, cases, shown))
        self.assertGreater(min(seen.values()), 20)

    def test_values_of_another_book(self):
        source = random.Random(14)
        for people in (3, 4, 6):
            books = [draw_book(source, people, 1, 5) for _ in range(20)]
            for book in books:
                for value in [possible(other) for other in books]:
                    self.assertIs(shows_possible(book, value), possible_is_right(book, value))
                    cases = source.choice(all_cases(book.hall))
                    shown = value if value[0] == "timeline" else value[1]
                    self.assertIs(shows_barred(book, cases, shown), barred_is_right(book, cases, shown))


if __name__ == "__main__":
    unittest.main()
