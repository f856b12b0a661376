"""Steady webs without their cells: points, ways and steps."""

from cellwebs.lattices import divided, reduced
from cellwebs.links import links_of
from cellwebs.moves import added, less, times
from cellwebs.points import inside, points_of


class Pattern:
    """A steady web, told by its steps and by its spots: its points, those being one that differ by a step.

    `rows` are the steps in their form, `spots` one point for each spot, and
    `ways` the ways from each of them to the points of its neighbours, in
    ascending order. The numbers of all these moves are to be divided by `of`.
    `spot_of` tells the spot of each place.
    """

    def __init__(self, web):
        points, self.of = points_of(web)
        ways = ways_between(web, points, self.of)
        self.rows = steps_of(points, ways, self.of)
        rests = [divided(self.rows, point)[1] for point in points]
        firsts = [place for place, rest in enumerate(rests) if rest not in rests[:place]]
        names = {rests[place]: name for name, place in enumerate(firsts)}
        self.spot_of = [names[rest] for rest in rests]
        self.spots = [points[place] for place in firsts]
        self.ways = [ways[place] for place in firsts]


def ways_between(web, points, of):
    """The list of the ways from the point of each place to those of its neighbours, in ascending order."""
    links = links_of(web.ties)
    ways = []
    for place, point in enumerate(points):
        ways.append(sorted([less(added(points[b], times(move, of)), point) for b, move in links[place]]))
    return ways


def steps_of(points, ways, of):
    """The steps that carry points and the ways from them to such, in their form."""
    ways_from = {inside(point, of): own for point, own in zip(points, ways)}
    cells = [tuple([of if at == row else 0 for at in range(len(points[0]))]) for row in range(len(points[0]))]
    # The first point is nought, so each step leads from there to some point, and cells are steps.
    steps = [step for step in points if is_step(step, points, of, ways_from)]
    return reduced(cells + steps)


def is_step(step, points, of, ways_from):
    """Whether each point, moved by a step, is a point with the same ways from it."""
    return all([ways_from.get(inside(added(point, step), of)) == ways_from[inside(point, of)] for point in points])
