"""A desk: a diary that is told lines, and answers them."""

from metonce.errors import BadLine
from metonce.journals import do_deed, read_journal
from metonce.orders import many
from metonce.words import claim_in, deed_in, words_of

DONE = "ok"


def words_said(line):
    """Gives the words of any value that is said, () if it has none of the forms of lines in that."""
    if not isinstance(line, str) or "\n" in line:
        return ()
    return words_of(line)


class Desk:
    """A diary, told by the text of a journal, with lines to change and to ask it."""

    def __init__(self, text):
        self.diary = read_journal(text)

    def say(self, line):
        """Does what the line tells, or answers what it asks."""
        words = words_said(line)
        if len(words) == 1:
            return self._say_word(line)
        if words[:1] == ("judge",):
            return self._judge(line, claim_in(words[1:]))
        deed = deed_in(words)
        if deed == ():
            raise BadLine(line)
        do_deed(self.diary, deed)
        return DONE

    def _say_word(self, line):
        """Answers a line of one word."""
        if line == "undo":
            self.diary.undo()
            return DONE
        if line == "redo":
            self.diary.redo()
            return DONE
        if line == "surely":
            return ", ".join([f"{one} {other}" for one, other in self.diary.surely()])
        if line == "many":
            return str(many(self.diary.book))
        raise BadLine(line)

    def _judge(self, line, claim):
        """Answers what holds of a claim, () if the line has none."""
        if claim == ():
            raise BadLine(line)
        return self.diary.judged(claim)[0]
