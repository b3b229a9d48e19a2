"""Forks: where the orders of one case part.

People fall into groups, and groups of groups; whoever is outside of a group met all of it, or none. A fork
is a tuple of people, no two of whom met, of groups side by side. In which sequence they were there is to be
chosen; with all else that follows of them, it tells this of all people of these groups.
"""


def parts_of(table, names, met):
    """Parts the people into those who hang together by having met, or else by not having met."""
    parts = []
    for name in names:
        near = [part for part in parts if any([table.met[name, other] == met for other in part])]
        far = [part for part in parts if part not in near]
        parts = [*far, [name, *[other for part in near for other in part]]]
    return parts


def splits(table, name, group):
    """Tells whether this person met some of the group, and some not."""
    return len(set([table.met[name, member] for member in group])) == 2


def least_group(table, names, one, other):
    """Gives the least of all groups among these people in which the two stand."""
    group = [one, other]
    others = [name for name in names if name not in group and splits(table, name, group)]
    while others != []:
        group = group + others
        others = [name for name in names if name not in group and splits(table, name, group)]
    return group


def groups_of(table, names):
    """Gives the greatest groups short of all, of people who hang together by having met and by not having met."""
    groups = []
    for name in names:
        if not any([name in group for group in groups]):
            others = [other for other in names if other != name]
            near = [other for other in others if len(least_group(table, names, name, other)) < len(names)]
            groups.append([name, *near])
    return groups


def two_apart(table, groups):
    """Gives the first two people of different groups who did not meet."""
    pairs = [(one, other) for place, group in enumerate(groups) for one in group
             for next_group in groups[place + 1:] for other in next_group]
    return [pair for pair in pairs if not table.met[pair]][0]


def forks_of(table, names):
    """Gives all forks of these people."""
    if len(names) == 1:
        return []
    parts = parts_of(table, names, False)
    forks = []
    if len(parts) == 1:
        parts = parts_of(table, names, True)
        if len(parts) > 1:
            forks = [tuple([part[0] for part in parts])]
        else:
            # All hang together both ways: either all of it is as these two tell, or turned about.
            parts = groups_of(table, names)
            forks = [two_apart(table, parts)]
    return forks + [fork for part in parts for fork in forks_of(table, part)]
