"""Timelines made from a table, and from who left before who came."""


def ahead_of(table, pairs):
    """Gives with each event those that stand ahead of it, if just these pairs left before one another came."""
    ahead = {(name, way): [] for name in table.people for way in ("in", "out")}
    for one in table.people:
        for other in table.people:
            if (one, other) in pairs:
                ahead[other, "in"].append((one, "out"))
            else:
                ahead[one, "out"].append((other, "in"))
    for word, one, other in table.sayings:
        if word == "before":
            ahead[other].append(one)
    return ahead


def line_made(ahead):
    """Gives a timeline in which all stand ahead that ought to, () if there is none."""
    line = []
    while len(line) < len(ahead):
        left = [event for event in ahead if event not in line]
        ready = [event for event in left if all([other in line for other in ahead[event]])]
        if ready == []:
            return ()
        line += ready
    return tuple(line)


def line_by(table, paper):
    """Gives a timeline as the table tells, by a paper without a wrong row, which it fills; () if there is none."""
    for one in table.people:
        for other in table.people:
            # Either one may have left first: what follows goes against nothing, if there is a timeline at all.
            if one != other and not table.met[one, other] and (other, one) not in paper.pairs:
                paper.choose((one, other))
    if paper.wrong:
        return ()
    return line_made(ahead_of(table, paper.pairs))
