"""What the tests compare with: webs walked tie by tie, straight from the promises.

Nothing here uses the package, and a web is told here by its raw list of ties.
"""

from itertools import combinations
from math import gcd
from random import Random


def plus(one, other, many=1):
    return tuple(x + many * y for x, y in zip(one, other))


def ends(ties, knot):
    """The set of the knots to which a knot is tied."""
    place, cell = knot
    found = {(b, plus(cell, move)) for a, b, move in ties if a == place}
    return found | {(a, plus(cell, move, -1)) for a, b, move in ties if b == place}


def around(ties, knot, far):
    """The distances of all knots up to a distance, tie by tie."""
    distances, border = {knot: 0}, [knot]
    for distance in range(1, far + 1):
        border = {end for one in border for end in ends(ties, one)} - set(distances)
        distances.update((one, distance) for one in border)
    return distances


def counts(ties, knot, far):
    """How many knots have the distance 0, 1, .. far."""
    distances = list(around(ties, knot, far).values())
    return [distances.count(distance) for distance in range(far + 1)]


def within(ties, knot, size):
    """The colours 0 and 1 of all knots to which one comes without leaving a window, and whether they fit."""
    colours, ahead, fit = {knot: 0}, [knot], True
    while ahead:
        one = ahead.pop()
        for end in ends(ties, one):
            if max(abs(x) for x in end[1]) > size:
                continue
            if end not in colours:
                colours[end] = 1 - colours[one]
                ahead.append(end)
            elif colours[end] == colours[one]:
                fit = False
    return colours, fit


def lists_of(places, ties):
    """The lists of places that ties hold together."""
    names = list(range(places))
    for a, b, _ in ties:
        names = [names[a] if name == names[b] else name for name in names]
    lists = [[place for place in range(places) if names[place] == name] for name in set(names)]
    return sorted(lists)


def circuits(directions, ties, place):
    """Moves of closed ways of places, enough for all: (offsets, moves).

    Sweeps over the ties until nothing is new, not by a search from place to place.
    """
    offsets, grown = {place: (0,) * directions}, True
    while grown:
        grown = False
        for a, b, move in ties:
            if b in offsets and a not in offsets:
                offsets[a], grown = plus(offsets[b], move, -1), True
            if a in offsets and b not in offsets:
                offsets[b], grown = plus(offsets[a], move), True
    moves = [plus(plus(offsets[a], move), offsets[b], -1) for a, b, move in ties if a in offsets]
    return offsets, moves


def determinant(rows):
    if not rows:
        return 1
    total = 0
    for at, number in enumerate(rows[0]):
        rest = [row[:at] + row[at + 1:] for row in rows[1:]]
        total += (-1) ** at * number * determinant(rest)
    return total


def determinants(moves, size):
    """The determinants of so many of the moves, at so many of their places, one after the other."""
    for rows in combinations(moves, size):
        for columns in combinations(range(len(rows[0])), size):
            yield determinant([tuple(row[at] for at in columns) for row in rows])


def common(moves, size):
    """The greatest divisor of all determinants of so many moves."""
    found = 0
    for number in determinants(moves, size) if size else [1]:
        found = gcd(found, number)
        if found == 1:
            break
    return found


def rank(moves):
    """How many of the moves are independent of one another, at most."""
    most = min(len(moves), len(moves[0])) if moves else 0
    return max(size for size in range(most + 1) if size == 0 or any(determinants(moves, size)))


def is_sum(rows, move):
    """Whether a move is a sum of whole multiples of rows in the form of [21]."""
    for row in rows:
        at = next(at for at, number in enumerate(row) if number)
        if move[at] % row[at]:
            return False
        move = plus(move, row, -(move[at] // row[at]))
    return not any(move)


def in_form(rows):
    """Whether rows have the form of [21], read off its words."""
    leads = []
    for row in rows:
        if not any(row):
            return False
        leads.append(next(at for at, number in enumerate(row) if number))
    if any(later <= earlier for earlier, later in zip(leads, leads[1:])):
        return False
    if any(row[at] <= 0 for row, at in zip(rows, leads)):
        return False
    return all(0 <= rows[i][leads[j]] < rows[j][leads[j]] for j in range(len(rows)) for i in range(j))


def some_ties(seed, directions, places, many, size):
    """A list of ties by chance, always the same for the same numbers."""
    chance, ties = Random(seed), []
    while len(ties) < many:
        a, b = chance.randrange(places), chance.randrange(places)
        move = tuple(chance.randint(-size, size) for _ in range(directions))
        if a != b or any(move):
            ties.append((a, b, move))
    return ties


def samples(seed, many, most_ties=6, size=2, most_places=4):
    """So many small webs by chance of one, two and three directions: (directions, places, ties)."""
    chance = Random(seed)
    for number in range(many):
        directions, places = number % 3 + 1, chance.randint(1, most_places)
        ties = some_ties(chance.random(), directions, places, chance.randint(0, most_ties), size)
        yield directions, places, ties
