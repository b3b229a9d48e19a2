"""Words: what the words of a line tell, () if they have none of its forms."""

FIGURES = "0123456789"
WAYS = ("in", "out")


def words_of(line):
    """Gives the words of a line, parted by one blank each, () if one would have no sign."""
    words = line.split(" ")
    return () if "" in words else tuple(words)


def saying_in(words):
    """Gives the saying that the words tell."""
    if len(words) == 3 and words[0] in ("met", "not"):
        return words
    if len(words) == 5 and words[0] == "before" and words[2] in WAYS and words[4] in WAYS:
        return ("before", words[1:3], words[3:])
    return ()


def is_count(word):
    """Tells whether the word is an integer from 0 on, without zeros ahead."""
    return all([sign in FIGURES for sign in word]) and (word == "0" or word[0] != "0")


def deed_in(words):
    """Gives the deed that the words tell: a saying that is heard, or ("forget", number)."""
    if len(words) == 2 and words[0] == "forget" and is_count(words[1]):
        return ("forget", int(words[1]))
    return saying_in(words)


def claim_in(words):
    """Gives the claim that the words tell."""
    if len(words) == 4 and words[0] == "there" and words[2] in WAYS:
        return ("there", words[1:3], words[3])
    if len(words) == 3 and words[0] == "within":
        return words
    return saying_in(words)


def line_with(deed):
    """Gives the line that tells the deed."""
    word, *told = deed
    if word == "before":
        return " ".join([word, *[part for event in told for part in event]])
    return " ".join([word, *[str(part) for part in told]])
