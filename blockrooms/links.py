"""Things that hang together by links, told in rows, and signs for them.

Links are a dict that has for each thing a list of those that it is linked to; each link stands at both of its ends.
"""


def links_of(pairs):
    """The links by which the two things of each pair hang together."""
    links = {}
    for one, other in pairs:
        links.setdefault(one, []).append(other)
        links.setdefault(other, []).append(one)
    return links


def places_of(rows):
    """For each thing the place of its row."""
    return {thing: at for at, row in enumerate(rows) for thing in row}


def rows_of(links):
    """The things that hang together, a sorted list of each such lot, by their first ones."""
    met = {}
    rows = []
    for first in sorted(links):
        if first not in met:
            row = _reached(first, links)
            for thing in row:
                met[thing] = True
            rows.append(sorted(row))
    return rows


def _reached(first, links):
    """The first thing and all that it hangs together with."""
    row = {first: True}
    waiting = [first]
    while waiting:
        thing = waiting.pop()
        for other in links[thing]:
            if other not in row:
                row[other] = True
                waiting.append(other)
    return list(row)


def signs_of(ties):
    """For each thing 1 or -1, for the first of those that hang together 1; None where no signs keep all ties.

    Ties are links of which each is a tuple: (other, 1), where both have the same sign, or (other, -1).
    """
    signs = {}
    for first in sorted(ties):
        if first not in signs:
            signs[first] = 1
            _spread(first, ties, signs)
    for thing in ties:
        for other, tie in ties[thing]:
            if signs[other] != signs[thing] * tie:
                return None
    return signs


def _spread(first, ties, signs):
    """Gives signs to all that the first one, which has its own, hangs together with."""
    waiting = [first]
    while waiting:
        thing = waiting.pop()
        for other, tie in ties[thing]:
            if other not in signs:
                signs[other] = signs[thing] * tie
                waiting.append(other)
