"""What one sees of a pattern from its spots: the same of two patterns exactly if these are one.

Each one-to-one map that carries a steady web into another one carries its
points by rows and a point, and so its ways into those of the other one. It
leaves all that is worked out here as it is: which frames stand out, and what
one sees, reckoning from a spot and along a frame.
"""

from cellwebs.lattices import divided, reduced
from cellwebs.moves import less, turned_about
from cellwebs.ratios import shared_by
from cellwebs.tables import adjugate, carried, determinant, dot


class View:
    """What one sees of a pattern from a spot along a frame.

    `code` tells it, `order` is the list of all spots in the order in which
    one sees them. The map that carries the one spot and frame to the other
    ones carries pattern to pattern exactly if their codes are equal.
    """

    def __init__(self, spot, frame, code, order):
        self.spot = spot
        self.frame = frame
        self.code = code
        self.order = order


def views(pattern):
    """The list of the views of a pattern with the least code.

    There is one of them for each symmetry, those being one that differ by a
    step: the view to which it carries the first one.
    """
    found = [view for frame in frames(pattern) for view in views_along(pattern, frame)]
    least = min([view.code for view in found])
    return [view for view in found if view.code == least]


def views_along(pattern, frame):
    """The list of the views of a pattern from all its spots along a frame."""
    told = told_along(pattern, frame)
    return [view_from(spot, frame, told) for spot in range(len(pattern.spots))]


def view_from(start, frame, told):
    """The view from a spot along a frame, by which a pattern is told."""
    size, rows, spots, ways = told
    rests = [divided(rows, less(spot, spots[start]))[1] for spot in spots]
    seen = sorted([(rest, number) for number, rest in enumerate(rests)])
    code = (size, tuple(rows), tuple([(rest, ways[number]) for rest, number in seen]))
    return View(start, frame, code, [number for _, number in seen])


def told_along(pattern, frame):
    """A pattern told by a frame: by what its numbers are to be divided, its steps, spots and ways.

    Its numbers tell how many of each move of the frame make a move.
    """
    size, back = determinant(frame), adjugate(frame)
    if size < 0:
        size, back = -size, [turned_about(row) for row in back]
    rows = [carried(row, back) for row in pattern.rows]
    spots = [carried(spot, back) for spot in pattern.spots]
    ways = [[carried(way, back) for way in own] for own in pattern.ways]
    # In lowest terms the numbers are the same, however the web is told.
    shared = shared_by(size, rows + [way for own in ways for way in own])
    rows = reduced([parted_by(row, shared) for row in rows])
    spots = [parted_by(spot, shared) for spot in spots]
    ways = [tuple(sorted([parted_by(way, shared) for way in own])) for own in ways]
    return size // shared, rows, spots, ways


def parted_by(move, shared):
    """A move, each of its numbers divided by one that divides them all."""
    return tuple([number // shared for number in move])


def frames(pattern):
    """The list of the frames that stand out: lists of as many ways, none in the span of the others, as directions."""
    ways = sorted({way for own in pattern.ways for way in own})
    inner = inner_products(ways)
    found = [()]
    for _ in range(len(pattern.rows)):
        found = standing_out([names + (name,) for names in found for name in range(len(ways))], inner)
    return [[ways[name] for name in names] for names in found]


def inner_products(ways):
    """For each of the ways, in the order of the ways, the list of its inner products with all of them.

    They are those of the only scale, but for its unit, which no map of the
    ways to other ones changes, as it is made of all of them alike.
    """
    size = range(len(ways[0]))
    scale = adjugate([tuple([sum([way[row] * way[at] for way in ways]) for at in size]) for row in size])
    return [[dot(carried(way, scale), other) for other in ways] for way in ways]


def standing_out(lists, inner):
    """Those of the lists of names of ways whose last way is free of the others, and has the least inner products."""
    found = []
    least = None
    for names in lists:
        products = [inner[names[-1]][name] for name in reversed(names)]
        if (least is None or products <= least) and are_free(names, inner):
            if products != least:
                found = []
            least = products
            found.append(names)
    return found


def are_free(names, inner):
    """Whether none of the ways of these names is in the span of the others."""
    return determinant([tuple([inner[name][other] for other in names]) for name in names]) != 0
