"""[3]: webs as great as the limits let them be, with long numbers, and sections 3 and 4 for webs that were made."""

import unittest
from random import Random

from cellwebs.likeness import handed, key, kinds, least, map_of, same, steps, symmetries
from cellwebs.makings import (
    beside, cut, grouped, halved, lines, product, renamed, tied_too, turned)
from cellwebs.parts import distance, even, joined, lattice, parted, pulled, shells, strands, whole
from cellwebs.placing import placing, steady
from cellwebs.webs import Web
from known import (
    BY_HAND, COMBS, CORNERS, DIAMOND, LAYERS, LONG, ONE_WAY, ROAD, SCREWS, SPACE, STARS, STREETS, STRIP, TRIANGLES,
    WINDMILLS, names_by_chance, raw_of, turns_by_chance)
from likes import Placed, carries, is_steady, points, read
from steps import counts, ends, lists_of, plus, some_ties, within


def neighbours_at_most(raw):
    return max(len(ends(raw[2], (place, (0,) * raw[0]))) for place in range(raw[1]))


def steady_by_chance(seed, directions):
    """A steady web of 12 places and 24 ties, with numbers of 12 digits, and no more neighbours than allowed."""
    for more in range(1000):
        chance = Random(1000 * seed + more)
        ends_of_ties = [chance.sample(range(12), 2) for _ in range(24)]
        ties = [(a, b, tuple(chance.randint(-LONG, LONG) for _ in range(directions))) for a, b in ends_of_ties]
        raw = (directions, 12, ties)
        if neighbours_at_most(raw) <= (6 if directions == 3 else 8) and is_steady(raw):
            return raw


# A least web, and sizes that make twelve places or nearly so of it, and no more than 24 ties.
GREAT = [
    (ROAD, [12]), (STRIP, [12]), (ONE_WAY, [4]), (STREETS, [4, 3]), (STREETS, [12, 1]), (TRIANGLES, [2, 4]),
    (COMBS, [2, 3]), (STARS, [2, 2]), (WINDMILLS, [1, 1]), (SPACE, [2, 2, 2]), (SPACE, [1, 8, 1]),
    (DIAMOND, [3, 1, 2]), (SCREWS, [1, 3, 1]), (CORNERS, [2, 1, 1]), (LAYERS, [1, 2, 2]),
]


class GreatWebs(unittest.TestCase):
    """Webs of up to 12 places and 24 ties with long numbers, in each function of section 7."""

    def told_long(self, raw, sizes, seed):
        chance = Random(seed)
        web = turned(grouped(Web(*raw), sizes), turns_by_chance(chance, raw[0], LONG // 4))
        return renamed(web, names_by_chance(chance, raw[0], web.places, LONG // 4))

    def test_known_webs_in_greater_cells(self):
        answers = {repr(raw): answer for raw, *answer in BY_HAND}
        for number, (raw, sizes) in enumerate(GREAT):
            web, plain = self.told_long(raw, sizes, number), Web(*raw)
            self.assertLessEqual(web.places, 12)
            self.assertLessEqual(len(web.ties), 24)
            expected, lists, is_handed = answers[repr(raw)]
            many = web.places // plain.places
            with self.subTest(raw=raw, sizes=sizes):
                self.assertIs(same(web, plain), True)
                self.assertEqual(key(web), key(plain))
                self.assertEqual(least(web), least(plain))
                rows, point = map_of(plain, web)
                self.assertTrue(carries(
                    Placed(raw), Placed(raw_of(web)), [read(row) for row in rows], read(point)))
                numbers = [symmetries(web, place) for place in range(web.places)]
                self.assertEqual(sorted(numbers), sorted(expected * many))
                self.assertEqual(sorted(map(len, kinds(web))), sorted(many * len(kind) for kind in lists))
                self.assertIs(handed(web), is_handed)
                size = 1
                for at, row in enumerate(steps(web)):
                    size *= read(row)[at]
                self.assertEqual(size * many, 1)

    def test_webs_by_chance(self):
        """Webs of long ties by chance have no symmetry, and no step but whole cells."""
        for directions in (1, 2, 3):
            raw = steady_by_chance(directions, directions)
            web = Web(*raw)
            chance = Random(directions)
            other = turned(web, turns_by_chance(chance, directions, 5))
            other = renamed(other, names_by_chance(chance, directions, 12, 10 ** 6))
            cells = [tuple((int(row == at), 1) for at in range(directions)) for row in range(directions)]
            for given in (web, other):
                self.assertIs(steady(given), True)
                self.assertEqual([symmetries(given, place) for place in range(12)], [1] * 12)
                self.assertEqual(kinds(given), [[place] for place in range(12)])
                self.assertIs(handed(given), True)
                self.assertEqual(steps(given), cells)
                self.assertEqual((least(given).places, len(least(given).ties)), (12, len(web.ties)))
            self.assertIs(same(web, other), True)
            self.assertEqual((key(web), least(web)), (key(other), least(other)))
            rows, point = map_of(web, other)
            self.assertTrue(carries(Placed(raw), Placed(raw_of(other)), [read(row) for row in rows], read(point)))
            a, b, move = web.ties[5]
            moved = tied_too(cut(web, web.ties[5]), (a, b, plus(move, (1,) * directions)))
            self.assertIs(same(web, moved), False)
            self.assertNotEqual(key(web), key(moved))
            self.assertIsNone(map_of(web, moved))

    def test_least_webs_go_into_other_calls(self):
        for directions in (1, 2, 3):
            found = least(Web(*steady_by_chance(directions + 10, directions)))
            self.assertIs(whole(found), True)
            self.assertIs(steady(found), True)
            self.assertEqual(least(found), found)
            self.assertEqual([read(point) for point in placing(found)], points(raw_of(found)))


class GreatMakings(unittest.TestCase):
    """Webs of 40 places and 120 ties in each function of sections 5 and 6: their sizes, and some knots."""

    def great(self, directions, places=40, many=120):
        return Web(directions, places, some_ties(directions, directions, places, many, LONG))

    def test_sizes(self):
        for directions in (1, 2, 3):
            web = self.great(directions)
            chance = Random(directions)
            self.assertEqual(len(web.ties), 120)
            for made, places, many in (
                (renamed(web, names_by_chance(chance, directions, 40, LONG)), 40, 120),
                (turned(web, turns_by_chance(chance, directions, LONG)), 40, 120),
                (grouped(web, [1] * directions), 40, 120),
                (beside(self.great(directions, 20, 60), self.great(directions, 20, 60)), 40, 120),
                (tied_too(web, web.ties[7]), 40, 120),
                (cut(web, web.ties[7]), 40, 119),
                (halved(self.great(directions, 10, 30)), 40, 60),
                (halved(web), 160, 240),
            ):
                self.assertEqual((made.directions, made.places, len(made.ties)), (directions, places, many))
            self.assertEqual(lines(web).places, 120)
        made = product(self.great(1, 4, 3), self.great(2, 10, 9))
        self.assertEqual((made.directions, made.places, len(made.ties)), (3, 40, 66))

    def test_placing(self):
        ring = [(at, (at + 1) % 40, (LONG - at, at, -LONG)) for at in range(40)]
        straight = [(0, 0, (1, 0, 0)), (7, 7, (0, 1, 0)), (9, 9, (0, 0, 1))]
        web = Web(3, 40, ring + straight + some_ties(4, 3, 40, 77, LONG))
        self.assertEqual(len(web.ties), 120)
        found = [read(point) for point in placing(web)]
        for place in range(40):
            near = web.neighbours((place, (0, 0, 0)))
            total = (0, 0, 0)
            for b, cell in near:
                total = plus(total, plus(found[b], cell))
            self.assertEqual(total, tuple(len(near) * x for x in found[place]))
        self.assertIs(steady(web), True)


class PartsOfMadeWebs(unittest.TestCase):
    """Sections 3 and 4 for webs that were made, compared with their ties, walked one by one."""

    def made(self):
        streets, combs, line, diamond = Web(*STREETS), Web(*COMBS), Web(*ROAD), Web(*DIAMOND)
        return [
            grouped(combs, [2, 1]), turned(streets, [(1, 5), (0, -1)]), renamed(combs, [(1, (4, 4)), (0, (-9, 0))]),
            beside(combs, streets), halved(streets), lines(combs), product(combs, line), product(line, halved(line)),
            cut(combs, (1, 0, (0, 0))), tied_too(combs, (0, 0, (1, 1))), least(grouped(diamond, [1, 2, 1])),
            least(lines(diamond)), least(turned(Web(*WINDMILLS), [(1, 3), (0, 1)])), least(Web(*ONE_WAY)),
        ]

    def test_walks(self):
        for web in self.made():
            noughts = (0,) * web.directions
            with self.subTest(web=raw_of(web)):
                self.assertEqual(parted(web), lists_of(web.places, web.ties))
                size = {1: 30, 2: 14, 3: 7}[web.directions]
                fits = []
                for place in range(web.places):
                    knot = (place, noughts)
                    self.assertEqual(shells(web, knot, 4), counts(web.ties, knot, 4))
                    self.assertEqual(web.neighbours(knot), sorted(ends(web.ties, knot)))
                    reached, fit = within(web.ties, knot, size)
                    fits.append(fit)
                    for other in range(web.places):
                        for cell in (noughts, (1,) * web.directions, (-2,) + noughts[1:]):
                            goal = (other, cell)
                            self.assertIs(joined(web, knot, goal), goal in reached)
                            if distance(web, knot, goal) is None:
                                self.assertNotIn(goal, reached)
                self.assertIs(even(web), all(fits))

    def test_lattices(self):
        whole_cells = [(1, 0), (0, 1)]
        combs = Web(*COMBS)
        self.assertEqual(lattice(grouped(combs, [3, 2]), 5), whole_cells)
        self.assertIs(whole(grouped(combs, [3, 2])), True)
        self.assertIs(whole(beside(combs, combs)), False)
        self.assertEqual(parted(beside(combs, combs)), [[0, 1], [2, 3]])
        self.assertEqual(strands(beside(combs, combs), 3), 1)
        # Two streets within one another become two parts of other places, told with cells of two.
        sparse = Web(2, 1, [(0, 0, (2, 0)), (0, 0, (0, 1))])
        self.assertEqual(strands(sparse, 0), 2)
        greater = grouped(sparse, [2, 1])
        self.assertEqual((parted(greater), strands(greater, 1), lattice(greater, 1)), ([[0], [1]], 1, whole_cells))
        self.assertIs(same(pulled(greater, 1), Web(*STREETS)), True)
        self.assertIs(whole(cut(combs, (0, 1, (0, 1)))), False)

    def test_pulled_webs_are_the_same_as_their_parts(self):
        """[23] read by [60]: a part on its own is the web of which many lie within one another."""
        for raw in (ROAD, STRIP, STREETS, TRIANGLES, COMBS, SPACE, DIAMOND, SCREWS, WINDMILLS):
            directions, places, ties = raw
            wide = [(a, b, tuple(3 * x if at == 0 else x for at, x in enumerate(move))) for a, b, move in ties]
            web = turned(Web(directions, places, wide), turns_by_chance(Random(places), directions, 4))
            self.assertEqual(strands(web, places - 1), 3)
            for place in range(places):
                self.assertIs(same(pulled(web, place), Web(*raw)), True)


if __name__ == "__main__":
    unittest.main()
