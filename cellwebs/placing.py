"""The placing of webs: each knot at the mean of its neighbours."""

from cellwebs.checks import check_web
from cellwebs.errors import InvalidWeb
from cellwebs.parts import whole
from cellwebs.points import is_steady, points_of
from cellwebs.ratios import fractions_of


def placing(web):
    """The list of the points of the knots of all places in the cell of noughts."""
    check_web(web)
    if not whole(web):
        raise InvalidWeb(web)
    points, of = points_of(web)
    return [fractions_of(point, of) for point in points]


def steady(web):
    """Whether all knots are joined and no two of them have the same point."""
    check_web(web)
    return is_steady(web)
