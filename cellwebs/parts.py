"""Of which parts webs consist, and which knots are joined, however far they are from one another."""

from cellwebs.checks import check_knot, check_many, check_place, check_web
from cellwebs.lattices import multiples, reduced
from cellwebs.links import links_of, offsets_from, rounds
from cellwebs.moves import less
from cellwebs.walks import Walk
from cellwebs.webs import Web


def joined(web, one, other):
    """Whether one comes from the one knot to the other over ties."""
    check_web(web)
    check_knot(web, one)
    check_knot(web, other)
    return are_joined(web, one, other)


def lattice(web, place):
    """The list of moves whose sums of whole multiples lead from a knot of a place to all joined ones of it."""
    check_web(web)
    check_place(web, place)
    return rows_of(web, offsets_of(web, place))


def parted(web):
    """The list of the lists of places that have knots which are joined."""
    check_web(web)
    lists = []
    seen = {}
    for place in range(web.places):
        if place not in seen:
            places = sorted(offsets_of(web, place))
            lists.append(places)
            for other in places:
                seen[other] = True
    return lists


def strands(web, place):
    """How many different parts have knots of a place, None if there is no end of them."""
    check_web(web)
    check_place(web, place)
    return parts_with(web, offsets_of(web, place))


def whole(web):
    """Whether all knots are joined."""
    check_web(web)
    offsets = offsets_of(web, 0)
    return len(offsets) == web.places and parts_with(web, offsets) == 1


def pulled(web, place):
    """The part of a knot of a place as a web of its own, None if it has finitely many knots."""
    check_web(web)
    check_place(web, place)
    offsets = offsets_of(web, place)
    rows = rows_of(web, offsets)
    if not rows:
        return None
    names = {old: name for name, old in enumerate(sorted(offsets))}
    own = [tie for tie in web.ties if tie[0] in offsets]
    moves = [multiples(rows, way) for way in rounds(own, offsets)]
    return Web(len(rows), len(names), [(names[a], names[b], move) for (a, b, _), move in zip(own, moves)])


def distance(web, one, other):
    """Over how many ties at least one comes from the one knot to the other, None if they are not joined."""
    check_web(web)
    check_knot(web, one)
    check_knot(web, other)
    if not are_joined(web, one, other):
        return None
    reach = 8
    found = distance_within(web, one, other, reach)
    while found is None:
        reach = reach * 2
        found = distance_within(web, one, other, reach)
    return found


def shells(web, knot, many):
    """The list of how many knots have the distance 0, 1, .. many from a knot."""
    check_web(web)
    check_knot(web, knot)
    check_many(many)
    walk = Walk(web, knot[0], many)
    sizes = [1]
    for _ in range(many):
        walk.go_on()
        sizes.append(len(walk.layer))
    return sizes


def even(web):
    """Whether two colours are enough for all knots such that tied ones have unlike ones."""
    check_web(web)
    # A last number in each move counts the ties one goes over. A closed way of oddly many
    # ties, if there is one, is then a round by (0, .., 0, an odd number).
    counted = [(a, b, move + (1,)) for a, b, move in web.ties]
    links = links_of(counted)
    noughts = (0,) * web.directions
    for places in parted(web):
        ways = rounds(counted, offsets_from(links, places[0], noughts + (0,)))
        if noughts + (1,) in reduced(ways + [noughts + (2,)]):
            return False
    return True


def offsets_of(web, place):
    """A dict from each place of the part of a knot of a place to one cell where the part has a knot."""
    return offsets_from(links_of(web.ties), place, (0,) * web.directions)


def rows_of(web, offsets):
    """The lattice of the places that have these offsets."""
    return reduced(rounds(web.ties, offsets))


def are_joined(web, one, other):
    """Whether two knots are joined."""
    offsets = offsets_of(web, one[0])
    if other[0] not in offsets:
        return False
    way = less(other[1], one[1])
    return multiples(rows_of(web, offsets), less(way, offsets[other[0]])) is not None


def parts_with(web, offsets):
    """How many different parts have knots of the places that have these offsets, None for no end of them."""
    rows = rows_of(web, offsets)
    if len(rows) < web.directions:
        return None
    many = 1
    for at, row in enumerate(rows):
        many = many * row[at]
    return many


def distance_within(web, one, other, reach):
    """The distance of two knots, None if it is more than reach."""
    walk = Walk(web, one[0], reach)
    way = less(other[1], one[1])
    if not walk.is_near(way):
        return None
    goal = walk.number_of(other[0], way)
    for far in range(reach):
        if goal in walk.layer:
            return far
        walk.go_on()
    return reach if goal in walk.layer else None
