"""Journals: what was done on a diary, as a text, and the diary of such a text."""

from metonce.diaries import Diary
from metonce.errors import BadHall, BadJournal, MeetError
from metonce.halls import Hall
from metonce.words import deed_in, line_with, words_of

HEARD = "heard"


def do_deed(diary, deed):
    """Does a deed on the diary."""
    if deed[0] == "forget":
        diary.forget(deed[1])
    else:
        diary.hear(deed)


def journal(diary):
    """Gives the text that tells the hall of the diary and all deeds that stand."""
    return "\n".join([diary.hall.text, HEARD, *[line_with(deed) for deed in diary.deeds()]])


def hall_of(lines):
    """Gives the hall that the lines tell."""
    try:
        return Hall("\n".join(lines))
    except BadHall as error:
        raise BadJournal(error.value)


def do_line(diary, number, line):
    """Does what the line with this number tells."""
    deed = deed_in(words_of(line))
    if deed == ():
        raise BadJournal(number)
    try:
        do_deed(diary, deed)
    except MeetError:
        raise BadJournal(number)


def read_journal(text):
    """Gives the diary on which all was done that the text tells."""
    if not isinstance(text, str):
        raise BadJournal(0)
    lines = text.split("\n")
    if HEARD not in lines:
        raise BadJournal(len(lines) + 1)
    place = lines.index(HEARD)
    diary = Diary(hall_of(lines[:place]))
    for number, line in enumerate(lines[place + 1:], start=place + 2):
        do_line(diary, number, line)
    return diary
