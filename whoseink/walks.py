"""Walks: what is come to from some things, step by step, the shorter ways first."""


def next_level(found, level, leads):
    """What those of the level lead to and isn't found yet; it is found then, with its way.

    leads tells of a thing the list of (label, thing behind); a way is the tuple of its labels.
    """
    behind = []
    for thing in level:
        for label, then in leads(thing):
            if then not in found:
                found[then] = (*found[thing], label)
                behind.append(then)
    return behind


def ways_from(starts, leads):
    """Each thing that is come to from the starts, with a shortest way to it, the shorter ones first."""
    found = {start: () for start in starts}
    level = list(found)
    while level:
        level = next_level(found, level, leads)
    return found
