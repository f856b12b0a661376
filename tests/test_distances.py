"""[24]: distances, and how many knots are how far."""

import unittest
from random import Random

from cellwebs.parts import distance, shells
from cellwebs.webs import Web
from steps import around, counts, plus, samples, some_ties

FAR = 10 ** 40 - 7
LONG = 10 ** 12 - 1

LINE = Web(1, 1, [(0, 0, (1,))])
STREETS = Web(2, 1, [(0, 0, (1, 0)), (0, 0, (0, 1))])
COMBS = Web(2, 2, [(0, 1, (0, 0)), (0, 1, (1, 0)), (0, 1, (0, 1))])
TRIANGLES = Web(2, 1, [(0, 0, (1, 0)), (0, 0, (0, 1)), (0, 0, (1, 1))])
CUBES = Web(3, 1, [(0, 0, (1, 0, 0)), (0, 0, (0, 1, 0)), (0, 0, (0, 0, 1))])
DIAMOND = Web(3, 2, [(0, 1, (0, 0, 0)), (0, 1, (1, 0, 0)), (0, 1, (0, 1, 0)), (0, 1, (0, 0, 1))])
PACKED = Web(3, 1, [(0, 0, move) for move in ((1, 0, 0), (0, 1, 0), (0, 0, 1), (1, -1, 0), (1, 0, -1), (0, 1, -1))])


class Shells(unittest.TestCase):
    def test_by_hand(self):
        for web, numbers in (
            (LINE, [1] + [2] * 8),
            (STREETS, [1] + [4 * k for k in range(1, 9)]),
            (COMBS, [1] + [3 * k for k in range(1, 9)]),
            (TRIANGLES, [1] + [6 * k for k in range(1, 9)]),
            (CUBES, [1] + [4 * k * k + 2 for k in range(1, 9)]),
            (DIAMOND, [1, 4, 12, 24, 42, 64, 92, 124, 162]),
            (PACKED, [1] + [10 * k * k + 2 for k in range(1, 9)]),
        ):
            for many in range(9):
                for place in range(web.places):
                    for number in (0, -3, FAR):
                        self.assertEqual(shells(web, (place, (number,) * web.directions), many), numbers[:many + 1])

    def test_finite_parts(self):
        self.assertEqual(shells(Web(1, 1, []), (0, (FAR,)), 0), [1])
        self.assertEqual(shells(Web(2, 3, []), (2, (0, 1)), 4), [1, 0, 0, 0, 0])
        chain = Web(1, 4, [(0, 1, (0,)), (1, 2, (5,)), (2, 3, (-9,))])
        self.assertEqual(shells(chain, (0, (0,)), 6), [1, 1, 1, 1, 0, 0, 0])
        self.assertEqual(shells(chain, (1, (0,)), 6), [1, 2, 1, 0, 0, 0, 0])
        ring = Web(2, 4, [(0, 1, (0, 0)), (1, 2, (0, 0)), (2, 3, (0, 0)), (3, 0, (0, 0))])
        self.assertEqual(shells(ring, (3, (8, 8)), 3), [1, 2, 1, 0])

    def test_only_the_own_part_counts(self):
        web = Web(1, 2, [(0, 0, (2,)), (1, 1, (1,)), (1, 1, (2,))])
        self.assertEqual(shells(web, (0, (0,)), 3), [1, 2, 2, 2])
        self.assertEqual(shells(web, (1, (0,)), 3), [1, 4, 4, 4])

    def test_long_moves(self):
        web = Web(2, 1, [(0, 0, (LONG, 0)), (0, 0, (0, -LONG)), (0, 0, (LONG, LONG - 1))])
        ties = web.ties
        self.assertEqual(shells(web, (0, (FAR, -FAR)), 8), counts(ties, (0, (0, 0)), 8))
        for seed in range(12):
            directions = seed % 3 + 1
            ties = some_ties(seed, directions, 3, 5, LONG)
            web = Web(directions, 3, ties)
            for place in range(3):
                knot = (place, (0,) * directions)
                self.assertEqual(shells(web, knot, 6), counts(ties, knot, 6))

    def test_near_and_far_numbers_together(self):
        # Sums of long and short moves must never fall together.
        for ties in (
            [(0, 0, (LONG, 1)), (0, 0, (0, 1)), (0, 0, (1, 0))],
            [(0, 0, (1, -16)), (0, 0, (0, 1)), (0, 0, (0, 16))],
            [(0, 0, (1, 8)), (0, 0, (0, 1)), (0, 0, (1, -9))],
        ):
            for many in range(9):
                self.assertEqual(shells(Web(2, 1, ties), (0, (0, 0)), many), counts(ties, (0, (0, 0)), many))

    def test_by_chance(self):
        for directions, places, ties in samples(240, 90, most_ties=6):
            web = Web(directions, places, ties)
            for place in range(places):
                knot, many = (place, (0,) * directions), 6 - directions
                with self.subTest(ties=ties, place=place):
                    self.assertEqual(shells(web, knot, many), counts(ties, knot, many))

    def test_eight_by_chance(self):
        for directions, places, ties in samples(241, 12, most_ties=4):
            knot = (places - 1, (0,) * directions)
            self.assertEqual(shells(Web(directions, places, ties), knot, 8), counts(ties, knot, 8))

    def test_many_knots(self):
        # All cells up to 5 away either way: the distance is the greater number, in fives.
        square = [(x, y) for x in range(-5, 6) for y in range(-5, 6) if (x, y) > (0, 0)]
        web = Web(2, 1, [(0, 0, move) for move in square])
        self.assertEqual(len(web.ties), 60)
        sizes = [(10 * k + 1) ** 2 - (10 * k - 9) ** 2 for k in range(1, 9)]
        self.assertEqual(shells(web, (0, (1, 2)), 8), [1] + sizes)

    def test_kinds(self):
        sizes = shells(LINE, (0, (0,)), 2)
        self.assertIs(type(sizes), list)
        self.assertEqual([type(size) for size in sizes], [int] * 3)


class Distance(unittest.TestCase):
    def test_by_hand(self):
        for web, one, other, far in (
            (LINE, (0, (3,)), (0, (3,)), 0),
            (LINE, (0, (FAR,)), (0, (FAR - 8,)), 8),
            (STREETS, (0, (0, 0)), (0, (3, -2)), 5),
            (STREETS, (0, (FAR, -FAR)), (0, (FAR + 4, 4 - FAR)), 8),
            (COMBS, (0, (0, 0)), (0, (0, 0)), 0),
            (COMBS, (0, (0, 0)), (1, (0, 1)), 1),
            (COMBS, (0, (0, 0)), (1, (1, 1)), 3),
            (COMBS, (0, (0, 0)), (1, (-1, 0)), 3),
            (COMBS, (0, (0, 0)), (0, (1, 0)), 2),
            (COMBS, (0, (0, 0)), (0, (1, 1)), 4),
            (TRIANGLES, (0, (0, 0)), (0, (5, 5)), 5),
            (TRIANGLES, (0, (0, 0)), (0, (4, -4)), 8),
            (CUBES, (0, (0, 0, 0)), (0, (-2, 3, 3)), 8),
            (DIAMOND, (0, (0, 0, 0)), (1, (1, 1, -1)), 3),
            (Web(1, 1, [(0, 0, (2,)), (0, 0, (7,))]), (0, (0,)), (0, (1,)), 4),
            (Web(1, 1, [(0, 0, (10,)), (0, 0, (1,))]), (0, (0,)), (0, (15,)), 6),
            (Web(1, 1, [(0, 0, (LONG,)), (0, 0, (LONG - 1,))]), (0, (0,)), (0, (4,)), 8),
        ):
            self.assertEqual(distance(web, one, other), far)
            self.assertEqual(distance(web, other, one), far)

    def test_not_joined(self):
        wires = Web(2, 2, [(0, 0, (2, 0)), (0, 0, (1, 3)), (1, 1, (0, -2))])
        for one, other in (
            ((0, (0, 0)), (0, (0, 1))),
            ((0, (0, 0)), (0, (FAR, FAR + 1))),
            ((0, (0, 0)), (1, (0, 0))),
            ((1, (0, 0)), (1, (1, 0))),
            ((1, (FAR, 0)), (1, (FAR, 1))),
            ((1, (-FAR, 2)), (1, (FAR, 2))),
        ):
            self.assertIsNone(distance(wires, one, other))
            self.assertIsNone(distance(wires, other, one))
        self.assertIsNone(distance(Web(1, 2, []), (0, (0,)), (1, (0,))))
        self.assertIsNone(distance(Web(1, 2, []), (0, (0,)), (0, (1,))))

    def test_no_ties_but_the_knot_itself(self):
        self.assertEqual(distance(Web(3, 2, []), (1, (FAR, 0, 1)), (1, (FAR, 0, 1))), 0)

    def test_moves_of_noughts(self):
        chain = Web(2, 4, [(0, 1, (0, 0)), (1, 2, (0, 0)), (2, 3, (0, 0))])
        self.assertEqual([distance(chain, (0, (5, 5)), (place, (5, 5))) for place in range(4)], [0, 1, 2, 3])
        self.assertIsNone(distance(chain, (0, (5, 5)), (1, (5, 6))))

    def test_somewhat_farther(self):
        self.assertEqual(distance(LINE, (0, (0,)), (0, (9,))), 9)
        self.assertEqual(distance(LINE, (0, (0,)), (0, (-100,))), 100)
        self.assertEqual(distance(STREETS, (0, (0, 0)), (0, (10, -10))), 20)
        ring = Web(1, 40, [(k, (k + 1) % 40, (0,)) for k in range(40)])
        self.assertEqual([distance(ring, (0, (0,)), (k, (0,))) for k in (9, 20, 25)], [9, 20, 15])

    def test_step_by_step(self):
        chance = Random(26)
        for directions, places, ties in samples(242, 60, most_ties=5):
            web, begin = Web(directions, places, ties), tuple(chance.choice((0, FAR)) for _ in range(directions))
            one = (chance.randrange(places), begin)
            distances = around(ties, one, 8 if directions == 1 else 5 - directions % 2)
            for other in chance.sample(sorted(distances), min(12, len(distances))):
                with self.subTest(ties=ties, one=one, other=other):
                    self.assertEqual(distance(web, one, other), distances[other])
                    self.assertEqual(distance(web, other, one), distances[other])

    def test_eight_in_three_directions(self):
        for directions, places, ties in samples(243, 12, most_ties=4):
            one = (0, (0,) * directions)
            distances = around(ties, one, 8)
            for other in sorted(distances)[::97] + [max(distances, key=distances.get)]:
                self.assertEqual(distance(Web(directions, places, ties), one, other), distances[other])

    def test_long_moves(self):
        for seed in range(15):
            directions = seed % 3 + 1
            ties = some_ties(seed, directions, 2, 4, LONG)
            one = (1, (-FAR,) * directions)
            distances = around(ties, one, 5)
            for other in sorted(distances)[::41]:
                self.assertEqual(distance(Web(directions, 2, ties), one, other), distances[other])
                moved = (other[0], plus(other[1], (1,) * directions))
                if directions > 1 and moved not in distances:
                    self.assertIn(distance(Web(directions, 2, [ties[0]]), one, moved), (None, 1))


if __name__ == "__main__":
    unittest.main()
