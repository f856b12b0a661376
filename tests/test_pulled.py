"""[23]: parts as webs of their own."""

import unittest

from cellwebs.parts import pulled
from cellwebs.webs import Web
from steps import circuits, common, counts, lists_of, rank, samples, some_ties


class Pulled(unittest.TestCase):
    def assert_pulled(self, directions, places, ties, place, far):
        """Compare with the part, walked tie by tie; return the pulled web."""
        web = pulled(Web(directions, places, ties), place)
        offsets, moves = circuits(directions, ties, place)
        with self.subTest(ties=ties, place=place):
            if not any(any(move) for move in moves):
                self.assertIsNone(web)
                return None
            self.assertIs(type(web), Web)
            self.assertEqual(web.places, len(offsets))
            self.assertEqual(web.directions, rank(moves))
            self.assertEqual(len(lists_of(web.places, web.ties)), 1)
            _, rounds = circuits(web.directions, web.ties, 0)
            self.assertEqual(common(rounds, web.directions), 1)
            given = [counts(ties, (one, (0,) * directions), far) for one in offsets]
            made = [counts(web.ties, (one, (0,) * web.directions), far) for one in range(web.places)]
            self.assertEqual(sorted(made), sorted(given))
        return web

    def test_finite_parts(self):
        self.assertIsNone(pulled(Web(1, 1, []), 0))
        self.assertIsNone(pulled(Web(3, 2, [(0, 1, (5, 6, 7))]), 1))
        self.assertIsNone(pulled(Web(2, 3, [(0, 1, (1, 0)), (1, 2, (0, 1)), (2, 0, (-1, -1))]), 0))
        web = Web(1, 3, [(0, 1, (4,)), (2, 2, (1,))])
        self.assertIsNone(pulled(web, 0))
        self.assertIsNone(pulled(web, 1))
        self.assertEqual(pulled(web, 2), Web(1, 1, [(0, 0, (1,))]))

    def test_a_line_in_space(self):
        line = Web(1, 1, [(0, 0, (1,))])
        for ties in ([(0, 0, (5,))], [(0, 0, (-5,)), (0, 0, (5,))]):
            self.assertEqual(pulled(Web(1, 1, ties), 0), line)
        self.assertEqual(pulled(Web(3, 1, [(0, 0, (0, -4, 6))]), 0), line)
        self.assertEqual(pulled(Web(3, 2, [(1, 1, (0, 0, 10 ** 12 - 1))]), 1), line)

    def test_a_line_over_two_places(self):
        web = self.assert_pulled(3, 2, [(0, 1, (5, 0, 0)), (1, 0, (-4, 2, 2))], 0, 6)
        self.assertEqual((web.directions, web.places, len(web.ties)), (1, 2, 2))

    def test_two_steps_of_a_line(self):
        web = self.assert_pulled(1, 1, [(0, 0, (4,)), (0, 0, (6,))], 0, 6)
        self.assertEqual(web, Web(1, 1, [(0, 0, (2,)), (0, 0, (3,))]))

    def test_streets_askew(self):
        for move in ((1, 3), (3, 3), (-1, 3)):
            web = self.assert_pulled(2, 1, [(0, 0, (2, 0)), (0, 0, move)], 0, 5)
            self.assertEqual((web.directions, len(web.ties)), (2, 2))

    def test_a_plane_over_three_places_of_four(self):
        ties = [(3, 1, (1, 0, 0)), (1, 0, (0, 1, 0)), (0, 3, (1, 1, 0)), (3, 3, (0, 0, 2)), (2, 2, (1, 0, 0))]
        for place in (0, 1, 3):
            web = self.assert_pulled(3, 4, ties, place, 5)
            self.assertEqual((web.directions, web.places, len(web.ties)), (2, 3, 4))
        self.assertEqual(pulled(Web(3, 4, ties), 2), Web(1, 1, [(0, 0, (1,))]))

    def test_by_chance(self):
        for directions, places, ties in samples(230, 150, most_ties=6, size=3, most_places=5):
            for place in range(places):
                self.assert_pulled(directions, places, ties, place, 4)

    def test_flat_parts_by_chance(self):
        # All moves are sums of two: at most two directions of three are left.
        for seed in range(40):
            ties = []
            for a, b, (x, y) in some_ties(seed, 2, 4, 6, 2):
                ties.append((a, b, (2 * x + y, 2 * x - 3 * y, 4 * y)))
            for place in range(4):
                web = self.assert_pulled(3, 4, ties, place, 4)
                self.assertTrue(web is None or web.directions < 3)

    def test_long_moves(self):
        for seed in range(20):
            directions, places = seed % 3 + 1, seed % 5 + 1
            ties = some_ties(seed, directions, places, places + 2, 10 ** 12 - 1)
            for place in range(places):
                self.assert_pulled(directions, places, ties, place, 3)

    def test_greatest_web(self):
        ties = [(k % 40, (k + 1 + k // 40 * 5) % 40, (k % 7 - 3, 2 * (k % 11), 5 * (k % 5))) for k in range(120)]
        web = self.assert_pulled(3, 40, ties, 0, 2)
        self.assertEqual(len(web.ties), 120)


if __name__ == "__main__":
    unittest.main()
