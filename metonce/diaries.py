"""Diaries: books that grow saying by saying, and can go back."""

from metonce.books import Book
from metonce.errors import Contrary, NothingToRedo, NothingToUndo, NoTrial
from metonce.judging import judged
from metonce.possible import possible, surely


class Trial:
    """A block in which a diary is tried: behind it the diary is as it was ahead of it, unless it is kept."""

    def __init__(self, diary):
        self.kept = None
        self._diary = diary
        self._outer = None
        self._book = None
        self._done = 0
        self._steps = ()

    def __enter__(self):
        diary = self._diary
        self._outer = diary.block
        self._book = diary.book
        self._done = diary.done
        self._steps = diary.steps
        diary.block = self
        return diary

    def __exit__(self, kind, value, trace):
        self._diary.block = self._outer
        if kind is not None or self.kept is None:
            self._diary.book = self._book
            self._diary.done = self._done
            self._diary.steps = self._steps


class Diary:
    """A book of sayings in use. Its steps are all deeds that stand or can be done again, each with the book behind it.

    The steps are a tuple, never changed but put anew, so that a block can put the old one back.
    """

    def __init__(self, hall):
        self.hall = hall
        self.book = Book(hall)
        self.done = 0
        self.steps = ()
        self.block = None

    def hear(self, saying):
        """Puts the saying behind the others."""
        book = self.book + saying
        word, shown = possible(book)
        if word == "none":
            raise Contrary(shown)
        self._do(saying, book)

    def forget(self, number):
        """Lets the saying with this number go."""
        self._do(("forget", number), self.book.without(number))

    def _do(self, deed, book):
        """Does a deed, after which the book is as told; what was taken back cannot be done again."""
        self.steps = (*self.steps[:self.done], (deed, book))
        self._go(self.done + 1)

    def _go(self, done):
        """Goes to where so many deeds stand."""
        self.done = done
        self.book = self.steps[done - 1][1] if done > 0 else Book(self.hall)

    def deeds(self):
        """Gives the tuple of all deeds that stand: a saying that was heard, or ("forget", number)."""
        return tuple([deed for deed, _ in self.steps[:self.done]])

    def judged(self, claim):
        """Gives what holds of the claim in the timelines that fit the book, with what shows it."""
        return judged(self.book, claim)

    def surely(self):
        """Gives all pairs, the first of whom left before the second came in all timelines that fit the book."""
        return surely(self.book)

    def undo(self):
        """Takes the last deed back that stands."""
        if self.done == 0:
            raise NothingToUndo(None)
        self._go(self.done - 1)

    def redo(self):
        """Does the deed again that was taken back last."""
        if self.done == len(self.steps):
            raise NothingToRedo(None)
        self._go(self.done + 1)

    def trial(self):
        """Gives what a block is entered with, behind which the diary is as it was, unless it is kept."""
        return Trial(self)

    def keep(self):
        """Lets what is done in the innermost block stay."""
        block = self.block
        if block is None:
            raise NoTrial(None)
        block.kept = True

    def tried(self, look, *, keep=False):
        """Gives what the function gives for the diary, within a block, kept if keep is True."""
        with self.trial() as held:
            told = look(held)
            if keep is True:
                held.keep()
        return told

    def copy(self):
        """Gives an independent diary, alike, outside of all blocks."""
        other = Diary(self.hall)
        other.book = self.book
        other.done = self.done
        other.steps = self.steps
        return other

    def __len__(self):
        return len(self.book.sayings)

    def __eq__(self, other):
        return isinstance(other, Diary) and self.book == other.book
