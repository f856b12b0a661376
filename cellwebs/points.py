"""The points of knots, each the mean of the points of its neighbours.

Points are told by moves whose numbers are to be divided by one number for
all of them.
"""

from cellwebs.links import links_of
from cellwebs.moves import added
from cellwebs.parts import whole
from cellwebs.ratios import shared_by


def points_of(web):
    """The points of the knots in the cell of noughts, and by what they are to be divided: (points, of).

    All knots of the web have to be joined.
    """
    found, of = solved(balances(web))
    points = [(0,) * web.directions] + [tuple(point) for point in found]
    shared = shared_by(of, points)
    return [tuple([number // shared for number in point]) for point in points], of // shared


def balances(web):
    """What holds for the points of all places but the first one, whose point is known, a line for each.

    The numbers of a line are how often the point of each of these places
    counts, and behind them what this makes, a number for each direction.
    """
    links = links_of(web.ties)
    lines = []
    for a in range(1, web.places):
        counts = [0] * web.places
        total = (0,) * web.directions
        for b, move in links[a]:
            counts[a] = counts[a] + 1
            counts[b] = counts[b] - 1
            total = added(total, move)
        lines.append(counts[1:] + list(total))
    return lines


def solved(lines):
    """What the numbers that lines tell of are, and by what they are to be divided: (lists of numbers, of).

    All numbers stay whole, as each division leaves no rest: they are
    determinants of numbers of the lines. None of those on the diagonal
    becomes 0, as the points of joined knots are told by their neighbours.
    """
    many = len(lines)
    of = 1
    for k in range(many):
        by = lines[k]
        lines = [line if at == k else without(line, by, k, of) for at, line in enumerate(lines)]
        of = by[k]
    return [line[many:] for line in lines], of


def without(line, by, k, of):
    """A line made 0 at the place k by another line, divided by the number of the place before."""
    return [(by[k] * number - line[k] * more) // of for number, more in zip(line, by)]


def is_steady(web):
    """Whether all knots of a web are joined and no two of them have the same point."""
    if not whole(web):
        return False
    points, of = points_of(web)
    return len({inside(point, of) for point in points}) == web.places


def inside(point, of):
    """The point that lies so in the cell of noughts as a point lies in its own cell."""
    return tuple([number % of for number in point])
