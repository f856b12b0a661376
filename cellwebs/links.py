"""Ties, seen from their two ends.

The links of a place are the list of all pairs of a place and a move such
that the knots of the one place are tied to those of the other one, so much
further on. The functions take moves of any length, one for all ties.
"""

from cellwebs.moves import added, less, turned_about


def one_way(tie):
    """The same tie, told in the way in which a web tells it."""
    a, b, move = tie
    if a > b or (a == b and move < (0,) * len(move)):
        return (b, a, turned_about(move))
    return (a, b, move)


def links_of(ties):
    """A dict from each place that has ties to its links, in ascending order."""
    links = {}
    for a, b, move in ties:
        links.setdefault(a, []).append((b, move))
        links.setdefault(b, []).append((a, turned_about(move)))
    return {place: sorted(links[place]) for place in links}


def offsets_from(links, place, noughts):
    """A dict from each place that ties lead to from a place to one cell where they come to it.

    They start in the cell of noughts.
    """
    offsets = {place: noughts}
    ahead = [place]
    while ahead:
        a = ahead.pop()
        for b, move in links.get(a, []):
            if b not in offsets:
                offsets[b] = added(offsets[a], move)
                ahead.append(b)
    return offsets


def rounds(ties, offsets):
    """By how much one has gone on, coming back over each tie, from offsets to offsets.

    Each move that leads from a knot to one of its own place, to which it is
    joined, is a sum of whole multiples of these.
    """
    return [less(added(offsets[a], move), offsets[b]) for a, b, move in ties if a in offsets]
