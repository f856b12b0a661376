"""Webs whose answers are known, and the same webs told otherwise."""

from itertools import product
from random import Random

from cellwebs.makings import grouped, renamed, turned
from cellwebs.webs import Web

LONG = 10 ** 12 - 1

ROAD = (1, 1, [(0, 0, (1,))])
STREETS = (2, 1, [(0, 0, (1, 0)), (0, 0, (0, 1))])
TRIANGLES = (2, 1, [(0, 0, (1, 0)), (0, 0, (0, 1)), (0, 0, (1, 1))])
CROSSED = (2, 1, [(0, 0, (1, 0)), (0, 0, (0, 1)), (0, 0, (1, 1)), (0, 0, (1, -1))])
COMBS = (2, 2, [(0, 1, (0, 0)), (0, 1, (1, 0)), (0, 1, (0, 1))])
SPACE = (3, 1, [(0, 0, (1, 0, 0)), (0, 0, (0, 1, 0)), (0, 0, (0, 0, 1))])
DIAMOND = (3, 2, [(0, 1, (0, 0, 0)), (0, 1, (1, 0, 0)), (0, 1, (0, 1, 0)), (0, 1, (0, 0, 1))])
# As diamond, but that every other layer is turned over.
TURNED_DIAMOND = (3, 4, [(a, a + 1, move) for a in (0, 2) for move in ((0, 0, 0), (1, 0, 0), (0, 1, 0))]
                  + [(0, 2, (0, 0, 0)), (1, 3, (0, 0, -1))])
# Four places, each tied to each other one, and no closed way but those that go back as they came.
SCREWS = (3, 4, [(0, 1, (0, 0, 0)), (0, 2, (0, 0, 0)), (0, 3, (0, 0, 0)),
                 (1, 2, (1, 0, 0)), (2, 3, (0, 1, 0)), (3, 1, (0, 0, 1))])
# Knots on the ties of combs, and on those of diamond, tied where these meet.
STARS = (2, 3, [(0, 1, (0, 0)), (0, 2, (0, 0)), (1, 2, (0, 0)), (0, 1, (-1, 0)), (0, 2, (0, -1)), (1, 2, (1, -1))])
CORNERS = (3, 4, [(a, b, move) for a in range(4) for b in range(a + 1, 4) for move in (
    (0, 0, 0), tuple((at == a - 1) - (at == b - 1) for at in range(3)))])
# Ties of streets, combs and diamond with a knot within.
HALF_STREETS = (2, 3, [(0, 1, (0, 0)), (0, 2, (0, 0)), (1, 0, (1, 0)), (2, 0, (0, 1))])
HALF_COMBS = (2, 5, [(0, 2, (0, 0)), (2, 1, (0, 0)), (0, 3, (0, 0)), (3, 1, (1, 0)), (0, 4, (0, 0)), (4, 1, (0, 1))])
HALF_DIAMOND = (3, 6, [(0, at + 2, (0, 0, 0)) for at in range(4)]
                + [(at + 2, 1, move) for at, (_, _, move) in enumerate(DIAMOND[2])])
# Combs in layers, each knot tied to those above and below.
LAYERS = (3, 2, [(0, 1, (0, 0, 0)), (0, 1, (1, 0, 0)), (0, 1, (0, 1, 0)), (0, 0, (0, 0, 1)), (1, 1, (0, 0, 1))])
# Along a road the knots have 6, 4 and 2 neighbours, then 6, 4 and 2 again: backwards this is another order.
ONE_WAY = (1, 3, [(0, 1, (0,)), (1, 2, (0,)), (2, 0, (1,)), (0, 0, (1,)), (0, 0, (2,)), (1, 1, (1,))])
# A strip of triangles: a road with ties over one and over two.
STRIP = (1, 1, [(0, 0, (1,)), (0, 0, (2,))])
STRIP_AS_LADDER = (1, 2, [(0, 0, (1,)), (1, 1, (1,)), (0, 1, (0,)), (1, 0, (1,))])
LADDER = (1, 2, [(0, 0, (1,)), (1, 1, (1,)), (0, 1, (0,))])


def windmills():
    """Triangles without every seventh knot: those of which x + 3 * y leaves a rest from 1 to 6 by 7.

    Cells repeat by (7, 0) and (-3, 1). The place of a knot is one less than its rest.
    """
    def knot(x, y):
        rest = (x + 3 * y) % 7
        return rest - 1, ((x + 3 * y - rest) // 7, y)
    ties = []
    for rest in range(1, 7):
        for x, y in ((1, 0), (0, 1), (-1, 1)):
            if (rest + x + 3 * y) % 7:
                goal, cell = knot(rest + x, y)
                ties.append((rest - 1, goal, cell))
    return (2, 6, ties)


WINDMILLS = windmills()

# (web, how many symmetries leave the knot of each place, kinds, whether it is handed), all of them least.
BY_HAND = [
    (ROAD, [2], [[0]], False),
    (STRIP, [2], [[0]], False),
    (ONE_WAY, [1, 1, 1], [[0], [1], [2]], True),
    (STREETS, [8], [[0]], False),
    (TRIANGLES, [12], [[0]], False),
    (CROSSED, [8], [[0]], False),
    (COMBS, [6, 6], [[0, 1]], False),
    (STARS, [4, 4, 4], [[0, 1, 2]], False),
    (HALF_STREETS, [8, 4, 4], [[0], [1, 2]], False),
    (HALF_COMBS, [6, 6, 4, 4, 4], [[0, 1], [2, 3, 4]], False),
    (WINDMILLS, [1] * 6, [[0, 1, 2, 3, 4, 5]], True),
    (SPACE, [48], [[0]], False),
    (DIAMOND, [24, 24], [[0, 1]], False),
    (TURNED_DIAMOND, [6] * 4, [[0, 1, 2, 3]], False),
    (SCREWS, [6] * 4, [[0, 1, 2, 3]], True),
    (CORNERS, [12] * 4, [[0, 1, 2, 3]], False),
    (HALF_DIAMOND, [24, 24, 12, 12, 12, 12], [[0, 1], [2, 3, 4, 5]], False),
    (LAYERS, [12, 12], [[0, 1]], False),
]

# Webs that are not steady: (web, whether all knots are joined).
UNSTEADY = [
    ((1, 1, []), False),
    ((3, 4, []), False),
    ((1, 1, [(0, 0, (2,))]), False),
    ((1, 1, [(0, 0, (4,)), (0, 0, (6,))]), False),
    ((1, 2, [(0, 0, (1,)), (1, 1, (1,))]), False),
    ((2, 1, [(0, 0, (1, 0))]), False),
    ((2, 1, [(0, 0, (1, 1)), (0, 0, (1, -1))]), False),
    ((2, 2, [(0, 0, (1, 0)), (0, 0, (0, 1)), (1, 1, (1, 0)), (1, 1, (0, 1))]), False),
    ((3, 2, [(0, 0, (1, 0, 0)), (0, 0, (0, 1, 0)), (0, 0, (0, 0, 1))]), False),
    # A dead end has the point of its only neighbour.
    ((1, 2, [(0, 0, (1,)), (0, 1, (0,))]), True),
    ((2, 2, [(0, 0, (1, 0)), (0, 0, (0, 1)), (1, 0, (-5, 3))]), True),
    ((3, 2, [(0, 0, (1, 0, 0)), (0, 0, (0, 1, 0)), (0, 0, (0, 0, 1)), (0, 1, (0, 0, 0))]), True),
    # Two knots with the same neighbours.
    ((1, 3, [(0, 1, (0,)), (1, 0, (1,)), (0, 2, (0,)), (2, 0, (1,))]), True),
    ((2, 3, [(0, 0, (0, 1)), (0, 1, (0, 0)), (1, 0, (1, 0)), (0, 2, (4, 7)), (2, 0, (-3, -7))]), True),
    # Points that differ by whole numbers only: the knot of place 1 lies in the middle of a tie of two, at a knot.
    ((1, 2, [(0, 0, (1,)), (0, 1, (0,)), (1, 0, (2,))]), True),
    ((2, 2, [(0, 0, (1, 0)), (0, 0, (0, 1)), (0, 1, (0, 0)), (1, 0, (6, -4))]), True),
    ((2, 3, [(0, 0, (1, 0)), (0, 0, (0, 1)), (0, 1, (0, 0)), (1, 0, (1, 0)), (0, 2, (7, 7)), (2, 0, (-4, -7))]), True),
    (LADDER, True),
]


def turns_by_chance(chance, directions, size):
    """Rows with the determinant 1 or -1, whose numbers are about so great."""
    rows = [tuple(int(row == at) for at in range(directions)) for row in range(directions)]
    for at in range(directions):
        for other in range(at + 1, directions):
            many = chance.randint(-size, size)
            rows[at] = tuple(x + many * y for x, y in zip(rows[at], rows[other]))
    rows = [tuple(sign * x for x in row) for row in rows for sign in [chance.choice((1, -1))]]
    columns = chance.sample(range(directions), directions)
    return [tuple(row[at] for at in columns) for row in chance.sample(rows, directions)]


def names_by_chance(chance, directions, places, size):
    """Other names and origins of places."""
    names = chance.sample(range(places), places)
    return [(name, tuple(chance.randint(-size, size) for _ in range(directions))) for name in names]


def sizes_within(directions, most):
    """All sizes of greater cells of more than one and at most so many cells."""
    found = []
    for rows in product(range(1, most + 1), repeat=directions):
        many = 1
        for size in rows:
            many *= size
        if 1 < many <= most:
            found.append(list(rows))
    return found


def told_otherwise(web, seed, most=12):
    """The same web, told with other names, directions, greater cells, and several of these behind one another."""
    chance, found = Random(seed), []
    directions = web.directions
    for size in (1, LONG):
        found.append(renamed(web, names_by_chance(chance, directions, web.places, size)))
        found.append(turned(web, turns_by_chance(chance, directions, size)))
    sizes = sizes_within(directions, min(most // web.places, 4))
    for rows in chance.sample(sizes, min(len(sizes), 4)):
        greater = grouped(web, rows)
        found.append(greater)
        other = renamed(greater, names_by_chance(chance, directions, greater.places, 2))
        found.append(turned(other, turns_by_chance(chance, directions, 3)))
    last = turned(found[-1], turns_by_chance(chance, directions, LONG))
    found.append(renamed(last, names_by_chance(chance, directions, last.places, LONG)))
    return found


def raw_of(web):
    """What tells a web, for the functions that use no package."""
    return (web.directions, web.places, web.ties)


def web_of(raw):
    return Web(*raw)
