"""What the tests of placing and likeness compare with: points, and maps of points tried one by one.

Nothing here uses the package. A web is told by a tuple (directions, places, ties) of a raw list of ties.
"""

from fractions import Fraction
from itertools import product
from math import lcm

from steps import circuits, common, determinant, ends, lists_of, plus


def all_joined(raw):
    directions, places, ties = raw
    return len(lists_of(places, ties)) == 1 and common(circuits(directions, ties, 0)[1], directions) == 1


def points(raw):
    """The point of each place in the cell of noughts, by clearing one column after the other."""
    directions, places, ties = raw
    lines = []
    for place in range(places):
        line = [Fraction(0)] * (places + directions)
        for b, move in ends(ties, (place, (0,) * directions)):
            line[place] += 1
            line[b] -= 1
            line[places:] = plus(line[places:], move)
        lines.append(line)
    lines[0] = [Fraction(at == 0) for at in range(places + directions)]
    for column in range(places):
        at = next(at for at in range(column, places) if lines[at][column])
        lines[column], lines[at] = lines[at], lines[column]
        lines[column] = [number / lines[column][column] for number in lines[column]]
        for other in range(places):
            if other != column and lines[other][column]:
                lines[other] = list(plus(lines[other], lines[column], -lines[other][column]))
    return [tuple(line[places:]) for line in lines]


def is_steady(raw):
    if not all_joined(raw):
        return False
    return len({tuple(x % 1 for x in point) for point in points(raw)}) == raw[1]


def times(move, rows):
    """The sum of the rows, each times the number of the move at its place."""
    return tuple(sum(number * row[at] for number, row in zip(move, rows)) for at in range(len(rows[0])))


def inverse(rows):
    size, names = determinant(rows), range(len(rows))

    def minor(row, column):
        rest = [line[:column] + line[column + 1:] for at, line in enumerate(rows) if at != row]
        return (-1) ** (row + column) * determinant(rest)
    return [tuple(Fraction(minor(row, at)) / size for row in names) for at in names]


class Placed:
    """A web and its points, to find knots by their points."""

    def __init__(self, raw):
        self.directions, self.places, self.ties = raw
        self.points = points(raw)
        self.place_at = {tuple(x % 1 for x in point): place for place, point in enumerate(self.points)}
        assert len(self.place_at) == self.places, "not steady"
        noughts = (0,) * self.directions
        self.ways = [{plus(self.point(end), self.points[place], -1) for end in ends(self.ties, (place, noughts))}
                     for place in range(self.places)]
        self.all_ways = set().union(*self.ways)

    def point(self, knot):
        return plus(self.points[knot[0]], knot[1])

    def place_at_point(self, point):
        return self.place_at.get(tuple(x % 1 for x in point))


def carries(one, other, rows, point):
    """Whether rows and a point carry the knots of the one web to those of the other, knot by knot over a cell of
    the map: neighbours exactly to neighbours. As all are joined, no knot of the other web is left out then."""
    if determinant(rows) == 0:
        return False
    cell = lcm(*[Fraction(x).denominator for row in rows for x in row])
    assert cell ** one.directions <= 5000, "too many knots to try"
    shifts = [times(at, rows) for at in product(range(cell), repeat=one.directions)]
    for place in range(one.places):
        start = plus(times(one.points[place], rows), point)
        # A neighbour that lies so far from a knot is carried so far from the image of the knot.
        ways = {times(way, rows) for way in one.ways[place]}
        for shift in shifts:
            image = other.place_at_point(plus(start, shift))
            if image is None or ways != other.ways[image]:
                return False
    return True


def frame_of(ways, directions):
    """The first ways of a list that span all directions."""
    frame = []
    for way in ways:
        more = frame + [way]
        size = len(more)
        columns = [c for c in product(range(directions), repeat=size) if list(c) == sorted(set(c))]
        if any(determinant([tuple(row[at] for at in c) for row in more]) for c in columns):
            frame = more
        if len(frame) == directions:
            return frame


def maps(one, other, place, goal):
    """All (rows, point) that carry the one web to the other one, and a place to a place, both in the cell of noughts.

    Each list of ways of the other web is tried as the image of some ways that span the directions of the one.
    """
    if one.directions != other.directions:
        return []
    frame = frame_of(sorted(one.all_ways), one.directions)
    back, found = inverse(frame), []
    shares = [times(way, back) for way in sorted(one.all_ways)]
    # Whole numbers are much quicker to try than fractions.
    times_shares = lcm(*[x.denominator for share in shares for x in share])
    times_ways = lcm(*[Fraction(x).denominator for way in other.all_ways for x in way])
    whole_shares = [tuple(int(x * times_shares) for x in share) for share in shares]
    whole_ways = sorted(tuple(int(x * times_ways) for x in way) for way in other.all_ways)
    goals = {tuple(x * times_shares for x in way) for way in whole_ways}
    for images in product(whole_ways, repeat=one.directions):
        if any(times(share, images) not in goals for share in whole_shares) or determinant(images) == 0:
            continue
        rows = [tuple(x / times_ways for x in times(row, images)) for row in back]
        point = plus(other.points[goal], times(one.points[place], rows), -1)
        if carries(one, other, rows, point):
            found.append((rows, point))
    return found


def alike(one, other):
    """Whether some map carries the one web to the other one."""
    return any(maps(one, other, 0, goal) for goal in range(other.places))


def steps_by_trial(one):
    """All steps that lie in the cell of noughts."""
    straight = [tuple(int(row == at) for at in range(one.directions)) for row in range(one.directions)]
    return [tuple(x % 1 for x in point) for point in one.points if carries(one, one, straight, point)]


def lowest(number):
    """A fraction as the document writes it."""
    return (Fraction(number).numerator, Fraction(number).denominator)


def read(row):
    """The numbers of a tuple of fractions as the document writes them; they have to be in lowest terms."""
    assert type(row) is tuple
    for fraction in row:
        assert type(fraction) is tuple and len(fraction) == 2 and all(type(number) is int for number in fraction)
        assert fraction[1] >= 1 and lowest(Fraction(*fraction)) == fraction
    return tuple(Fraction(*fraction) for fraction in row)
