"""Whether steady webs are the same, and how they are alike in themselves, if all names are forgotten."""

from cellwebs.checks import check_place, check_web
from cellwebs.errors import InvalidWeb
from cellwebs.lattices import divided
from cellwebs.moves import added, less, times
from cellwebs.patterns import Pattern
from cellwebs.points import is_steady
from cellwebs.ratios import fractions_of
from cellwebs.tables import adjugate, carried, determinant
from cellwebs.views import views
from cellwebs.webs import Web


def same(one, other):
    """Whether two webs are the same."""
    check_steady(one)
    check_steady(other)
    return one.directions == other.directions and first_view(one).code == first_view(other).code


def map_of(one, other):
    """The rows and the point that carry the points of the one web to those of the other, None if there are none."""
    check_steady(one)
    check_steady(other)
    if one.directions != other.directions:
        return None
    start, goal = Pattern(one), Pattern(other)
    view, like = views(start)[0], views(goal)[0]
    if view.code != like.code:
        return None
    # The rows are the table that carries the one frame to the other: adjugate(frame) by size is its inverse.
    size = determinant(view.frame)
    rows = [times(carried(row, like.frame), start.of) for row in adjugate(view.frame)]
    of = size * goal.of
    moved = times(carried(start.spots[view.spot], rows), goal.of)
    point = less(times(goal.spots[like.spot], of * start.of), moved)
    return [fractions_of(row, of) for row in rows], fractions_of(point, of * start.of * goal.of)


def key(web):
    """A tuple of whole numbers that is equal for two webs exactly if they are the same."""
    check_steady(web)
    told = least_of(web)
    numbers = [told.directions, told.places]
    for a, b, move in told.ties:
        numbers = numbers + [a, b] + list(move)
    return tuple(numbers)


def steps(web):
    """The list of steps whose sums of whole multiples are all steps of a web."""
    check_steady(web)
    pattern = Pattern(web)
    return [fractions_of(row, pattern.of) for row in pattern.rows]


def least(web):
    """The web with the fewest places that is the same, one for all webs that are the same."""
    check_steady(web)
    return least_of(web)


def symmetries(web, place):
    """How many symmetries carry the knot of a place in the cell of noughts to itself."""
    check_steady(web)
    check_place(web, place)
    pattern = Pattern(web)
    seen = views(pattern)
    spot = pattern.spot_of[place]
    at = seen[0].order.index(spot)
    return len([view for view in seen if view.order[at] == spot])


def kinds(web):
    """The list of the lists of places that have knots which symmetries carry to one another."""
    check_steady(web)
    pattern = Pattern(web)
    seen = views(pattern)
    kind_of = {}
    for at, spot in enumerate(seen[0].order):
        kind_of[spot] = min([view.order[at] for view in seen])
    lists = {}
    for place, spot in enumerate(pattern.spot_of):
        lists.setdefault(kind_of[spot], []).append(place)
    return [lists[kind] for kind in lists]


def handed(web):
    """Whether all symmetries have rows with a determinant above 0."""
    check_steady(web)
    sizes = [determinant(view.frame) for view in views(Pattern(web))]
    return all([(size > 0) == (sizes[0] > 0) for size in sizes])


def check_steady(value):
    """Raise InvalidWeb unless a value is a steady web."""
    check_web(value)
    if not is_steady(value):
        raise InvalidWeb(value)


def first_view(web):
    """One of the views of a web with the least code."""
    return views(Pattern(web))[0]


def least_of(web):
    """The web told as in its views with the least code: its cells by steps, its places by what one sees."""
    _, rows, seen = first_view(web).code
    names = {spot: name for name, (spot, _) in enumerate(seen)}
    ties = []
    for name, (spot, ways) in enumerate(seen):
        for way in ways:
            cell, goal = divided(rows, added(spot, way))
            ties.append((name, names[goal], cell))
    return Web(web.directions, len(seen), ties)
