"""Webs that are made of webs."""

from cellwebs.checks import check_names, check_sizes, check_tie, check_turns, check_web
from cellwebs.errors import InvalidTie, InvalidWeb
from cellwebs.links import one_way
from cellwebs.moves import added, less, turned_about
from cellwebs.tables import carried
from cellwebs.webs import Web


def renamed(web, rows):
    """The web, told with other names and origins of its places."""
    check_web(web)
    check_names(web, rows)
    ties = []
    for a, b, move in web.ties:
        name, start = rows[a]
        goal, end = rows[b]
        ties.append((name, goal, less(added(move, end), start)))
    return Web(web.directions, web.places, ties)


def turned(web, rows):
    """The web, told with other directions."""
    check_web(web)
    check_turns(web, rows)
    return Web(web.directions, web.places, [(a, b, carried(move, rows)) for a, b, move in web.ties])


def grouped(web, rows):
    """The web, told with greater cells."""
    check_web(web)
    check_sizes(web, rows)
    inner = cells_within(rows)
    numbers = {cell: number for number, cell in enumerate(inner)}
    places = web.places
    ties = []
    for a, b, move in web.ties:
        for cell in inner:
            goal = added(cell, move)
            rest = tuple([number % size for number, size in zip(goal, rows)])
            far = tuple([number // size for number, size in zip(goal, rows)])
            ties.append((a + places * numbers[cell], b + places * numbers[rest], far))
    return Web(web.directions, places * len(inner), ties)


def cells_within(rows):
    """The list of the tuples of numbers from 0 to below those of rows, in ascending order."""
    cells = [()]
    for size in rows:
        cells = [cell + (number,) for cell in cells for number in range(size)]
    return cells


def beside(one, other):
    """The web that has the places and the ties of two webs."""
    check_web(one)
    check_web(other)
    if one.directions != other.directions:
        raise InvalidWeb(other)
    first = one.places
    behind = [(first + a, first + b, move) for a, b, move in other.ties]
    return Web(one.directions, first + other.places, one.ties + behind)


def tied_too(web, tie):
    """The web with one tie more."""
    check_web(web)
    check_tie(web, tie)
    return Web(web.directions, web.places, web.ties + [tie])


def cut(web, tie):
    """The web with one tie less."""
    check_web(web)
    check_tie(web, tie)
    ties = web.ties
    told = one_way(tie)
    if told not in ties:
        raise InvalidTie(tie)
    return Web(web.directions, web.places, [kept for kept in ties if kept != told])


def product(one, other):
    """The web of all pairs of a knot of the one and a knot of the other web, tied by a tie of either."""
    check_web(one)
    check_web(other)
    directions = one.directions + other.directions
    if directions > 3:
        raise InvalidWeb(other)
    many = other.places
    before, behind = (0,) * one.directions, (0,) * other.directions
    ties = [(a * many + b, c * many + b, move + behind) for a, c, move in one.ties for b in range(many)]
    more = [(a * many + b, a * many + c, before + move) for b, c, move in other.ties for a in range(one.places)]
    return Web(directions, one.places * many, ties + more)


def halved(web):
    """The web with a new knot within each tie, tied to its two ends."""
    check_web(web)
    noughts = (0,) * web.directions
    ties = []
    for within, (a, b, move) in enumerate(web.ties, start=web.places):
        ties.append((a, within, noughts))
        ties.append((within, b, move))
    return Web(web.directions, web.places + len(web.ties), ties)


def lines(web):
    """The web with a knot for each tie, tied to those of the ties that have a knot in common with it."""
    check_web(web)
    if not web.ties:
        raise InvalidWeb(web)
    ends = ends_of(web)
    ties = []
    for place in ends:
        for at, (one, start) in enumerate(ends[place]):
            for other, end in ends[place][:at]:
                ties.append((one, other, less(end, start)))
    return Web(web.directions, len(web.ties), ties)


def ends_of(web):
    """A dict from each place that has ties to the ties that end in its knot in the cell of noughts.

    Each is told by its number and by the cell in which it stands, that of its first knot.
    """
    ends = {}
    for number, (a, b, move) in enumerate(web.ties):
        ends.setdefault(a, []).append((number, (0,) * web.directions))
        ends.setdefault(b, []).append((number, turned_about(move)))
    return ends
