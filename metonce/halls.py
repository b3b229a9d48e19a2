"""Halls: who was in the room, who met whom, and of whom nobody knows it."""

from metonce.errors import Alone, BadHall, NoPerson

LETTERS = "abcdefghijklmnopqrstuvwxyz"
MOST_LETTERS = 8
MOST_PEOPLE = 9
MOST_MET = 20
MOST_OPEN = 4


def is_name(word):
    """Tells whether a word is a name."""
    return 1 <= len(word) <= MOST_LETTERS and all([sign in LETTERS for sign in word])


def are_unlike(names):
    """Tells whether none of the names stands there twice."""
    return len(set(names)) == len(names)


def are_among(names, people):
    """Tells whether the names are those of unlike people."""
    return are_unlike(names) and all([name in people for name in names])


def is_people_line(words):
    """Tells whether the words are those of a line people."""
    names = words[1:]
    if words[0] != "people" or not 1 <= len(names) <= MOST_PEOPLE:
        return False
    return are_unlike(names) and all([is_name(name) for name in names])


def is_met_line(words, people):
    """Tells whether the words are those of a line met of these people."""
    names = words[1:]
    return words[0] == "met" and len(names) >= 2 and are_among(names, people)


def is_open_line(words, people, told):
    """Tells whether the words are those of a line open, of a pair that no line ahead told of."""
    names = words[1:]
    return words[0] == "open" and len(names) == 2 and are_among(names, people) and tuple(names) not in told


def line_without(line, name):
    """Gives a line of a hall as it is told of the others, "" if it is not told of them."""
    head, *names = line.split(" ")
    others = [other for other in names if other != name]
    # A line open has two names: like a line met, it goes when fewer than two stay.
    if head != "people" and len(others) < 2:
        return ""
    return " ".join([head, *others])


def require_two(hall, one, other):
    """Raises NoPerson unless these are two unlike people of the hall."""
    if one not in hall:
        raise NoPerson(one)
    if other not in hall or other == one:
        raise NoPerson(other)


class Hall:
    """People, each two of whom met, or did not, or nobody knows; told by a text."""

    def __init__(self, text):
        if not isinstance(text, str):
            raise BadHall(0)
        lines = [line.split(" ") for line in text.split("\n")]
        if not is_people_line(lines[0]):
            raise BadHall(1)
        self.text = text
        self.people = tuple(lines[0][1:])
        self.opens = ()
        self._told = {}
        for number, words in enumerate(lines[1:], start=2):
            if not self._takes(number, words):
                raise BadHall(number)

    def _takes(self, number, words):
        """Takes the words of a line behind the first one, and tells whether it can stand there."""
        # All lines ahead are people and lines met as long as none is open, so the number counts them.
        if number <= 1 + MOST_MET and self.opens == () and is_met_line(words, self.people):
            self._tell(words[1:], "met")
            return True
        if len(self.opens) < MOST_OPEN and is_open_line(words, self.people, self._told):
            self._tell(words[1:], "open")
            self.opens = (*self.opens, tuple(words[1:]))
            return True
        return False

    def _tell(self, names, word):
        """Keeps the word of each two of the names, either way about."""
        for one in names:
            for other in names:
                if one != other:
                    self._told[one, other] = word

    def told(self, one, other):
        """Gives what is told of two people: "met", "open" or "not"."""
        require_two(self, one, other)
        return self._told.get((one, other), "not")

    def without(self, name):
        """Gives the Hall of the others."""
        if name not in self.people:
            raise NoPerson(name)
        if len(self.people) == 1:
            raise Alone(name)
        lines = [line_without(line, name) for line in self.text.split("\n")]
        return Hall("\n".join([line for line in lines if line != ""]))

    def __len__(self):
        return len(self.people)

    def __contains__(self, value):
        return value in self.people

    def __eq__(self, other):
        return isinstance(other, Hall) and self.text == other.text
