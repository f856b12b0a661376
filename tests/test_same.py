"""[60], [61], [62]: whether webs are the same, the maps between them, and their keys."""

import unittest
from itertools import combinations, product

from cellwebs.likeness import key, map_of, same
from cellwebs.makings import cut, grouped, halved, lines, renamed, tied_too, turned
from cellwebs.placing import steady
from cellwebs.webs import Web
from known import (
    BY_HAND, COMBS, CORNERS, CROSSED, DIAMOND, HALF_COMBS, HALF_DIAMOND, HALF_STREETS, LAYERS, LONG, ONE_WAY, ROAD,
    SCREWS, SPACE, STARS, STREETS, STRIP, STRIP_AS_LADDER, TRIANGLES, TURNED_DIAMOND, WINDMILLS, raw_of, told_otherwise)
from likes import Placed, alike, carries, is_steady, read
from misfits import repr_of
from steps import determinant, samples

MIRROR = {1: [(-1,)], 2: [(1, 0), (0, -1)], 3: [(1, 0, 0), (0, 1, 0), (0, 0, -1)]}

# Two steady webs each that are near one another, but not the same.
NEAR = [
    (ROAD, STRIP),
    (STRIP, (1, 1, [(0, 0, (1,)), (0, 0, (3,))])),
    ((1, 1, [(0, 0, (1,)), (0, 0, (4,))]), (1, 1, [(0, 0, (2,)), (0, 0, (3,))])),
    ((1, 1, [(0, 0, (1,)), (0, 0, (5,))]), (1, 1, [(0, 0, (2,)), (0, 0, (5,))])),
    ((1, 1, [(0, 0, (LONG,)), (0, 0, (LONG - 1,))]), (1, 1, [(0, 0, (LONG,)), (0, 0, (LONG - 2,))])),
    (ONE_WAY, (1, 3, ONE_WAY[2] + [(2, 2, (2,))])),
    (ONE_WAY, (1, 3, [(0, 1, (0,)), (1, 2, (0,)), (2, 0, (1,)), (0, 0, (1,)), (0, 0, (2,)), (1, 1, (2,))])),
    (STREETS, TRIANGLES),
    (STREETS, COMBS),
    (STREETS, HALF_STREETS),
    (TRIANGLES, CROSSED),
    (TRIANGLES, (2, 1, [(0, 0, (1, 0)), (0, 0, (0, 1)), (0, 0, (1, 2))])),
    ((2, 1, [(0, 0, (1, 0)), (0, 0, (0, 1)), (0, 0, (1, 3))]), (2, 1, [(0, 0, (1, 0)), (0, 0, (0, 1)), (0, 0, (2, 3))])),
    (COMBS, (2, 2, COMBS[2] + [(0, 0, (1, 0))])),
    ((2, 2, COMBS[2] + [(0, 0, (1, 0))]), (2, 2, COMBS[2] + [(0, 0, (1, 0)), (1, 1, (1, 0))])),
    (STARS, STREETS),
    (STARS, HALF_COMBS),
    (WINDMILLS, (2, 6, WINDMILLS[2][1:])),
    (DIAMOND, TURNED_DIAMOND),
    (DIAMOND, HALF_DIAMOND),
    (SPACE, CORNERS),
    (SPACE, (3, 1, [(0, 0, (1, 0, 0)), (0, 0, (0, 1, 0)), (0, 0, (0, 0, 1)), (0, 0, (1, 1, 1))])),
    (SCREWS, DIAMOND),
    (LAYERS, (3, 2, LAYERS[2][:4] + [(1, 1, (0, 1, 1))])),
    (LAYERS, (3, 2, LAYERS[2][:4])),
]


class Like(unittest.TestCase):
    def assert_map(self, one, other):
        """See that the map of two webs carries the one to the other, knot by knot; return its rows."""
        before = repr_of((one, other))
        found = map_of(one, other)
        self.assertEqual(repr_of((one, other)), before)
        self.assertIs(type(found), tuple)
        rows, point = found
        self.assertIs(type(rows), list)
        self.assertEqual((len(rows), len(point)), (one.directions,) * 2)
        rows = [read(row) for row in rows]
        self.assertTrue(all(len(row) == one.directions for row in rows))
        self.assertTrue(carries(Placed(raw_of(one)), Placed(raw_of(other)), rows, read(point)))
        return rows

    def assert_same(self, one, other):
        self.assertIs(same(one, other), True)
        self.assertIs(same(other, one), True)
        self.assertEqual(key(one), key(other))
        self.assert_map(one, other)
        self.assert_map(other, one)

    def assert_unlike(self, one, other):
        self.assertIs(same(one, other), False)
        self.assertIs(same(other, one), False)
        self.assertNotEqual(key(one), key(other))
        self.assertIsNone(map_of(one, other))
        self.assertIsNone(map_of(other, one))


class Same(Like):
    def test_itself(self):
        for raw, _, _, _ in BY_HAND:
            self.assert_same(Web(*raw), Web(*raw))

    def test_told_otherwise(self):
        for number, (raw, _, _, _) in enumerate(BY_HAND):
            web = Web(*raw)
            for other in told_otherwise(web, number):
                with self.subTest(raw=raw, other=raw_of(other)):
                    self.assertIs(same(web, other), True)
                    self.assertEqual(key(other), key(web))
                    self.assert_map(web, other)
                    self.assert_map(other, web)

    def test_both_told_otherwise(self):
        for raw in (ROAD, ONE_WAY, STREETS, COMBS, WINDMILLS, DIAMOND, SCREWS):
            told = told_otherwise(Web(*raw), 5)
            for one, other in zip(told, told[1:] + told[:1]):
                self.assert_same(one, other)

    def test_streets_in_greater_cells(self):
        streets = Web(*STREETS)
        webs = [turned(grouped(streets, rows), [(1, 1), (0, 1)]) for rows in ([2, 1], [1, 2], [3, 2], [1, 5], [4, 3])]
        for one, other in product(webs, webs):
            self.assert_same(one, other)

    def test_made_in_other_ways(self):
        for one, other in (
            (halved(Web(*ROAD)), Web(*ROAD)), (lines(Web(*ROAD)), Web(*ROAD)), (halved(Web(*STREETS)), Web(*HALF_STREETS)),
            (halved(Web(*COMBS)), Web(*HALF_COMBS)), (lines(Web(*COMBS)), Web(*STARS)),
            (halved(Web(*DIAMOND)), Web(*HALF_DIAMOND)), (lines(Web(*DIAMOND)), Web(*CORNERS)),
            (Web(*STRIP), Web(*STRIP_AS_LADDER)),
            (Web(1, 1, [(0, 0, (3,)), (0, 0, (-2,))]), Web(1, 2, [(0, 0, (1,)), (1, 1, (1,)), (0, 1, (1,)), (1, 0, (2,))])),
            (Web(2, 1, [(0, 0, (1, 0)), (0, 0, (0, 1)), (0, 0, (1, 2))]),
             Web(2, 1, [(0, 0, (1, 0)), (0, 0, (0, 1)), (0, 0, (2, 1))])),
            (Web(2, 1, [(0, 0, (1, 0)), (0, 0, (0, 1)), (0, 0, (1, 1))]),
             Web(2, 1, [(0, 0, (1, 0)), (0, 0, (0, 1)), (0, 0, (1, -1))])),
        ):
            self.assert_same(one, other)

    def test_mirror_images(self):
        """The mirror image of a handed web is the same web; each map between the two turns it over."""
        for raw, _, _, is_handed in BY_HAND:
            web = Web(*raw)
            image = turned(web, MIRROR[raw[0]])
            self.assert_same(web, image)
            if is_handed:
                self.assertLess(determinant(self.assert_map(web, image)), 0)
                self.assertGreater(determinant(self.assert_map(web, web)), 0)

    def test_near_webs(self):
        for one, other in NEAR:
            with self.subTest(one=one, other=other):
                self.assertTrue(is_steady(one) and is_steady(other))
                self.assert_unlike(Web(*one), Web(*other))

    def test_near_webs_told_otherwise(self):
        for number, (one, other) in enumerate(NEAR):
            last = told_otherwise(Web(*one), number, 6)[-1]
            self.assertIs(same(last, Web(*other)), False)
            self.assertIsNone(map_of(Web(*other), last))
            self.assertNotEqual(key(last), key(Web(*other)))

    def test_all_known_webs(self):
        for one, other in combinations([Web(*raw) for raw, _, _, _ in BY_HAND], 2):
            self.assert_unlike(one, other)

    def test_other_directions(self):
        for one, other in product((ROAD, STRIP), (STREETS, TRIANGLES, SPACE)):
            self.assert_unlike(Web(*one), Web(*other))
        self.assert_unlike(Web(*STREETS), Web(*SPACE))

    def test_one_tie_in_greater_cells(self):
        """One tie more or less in every second, third or fourth cell is another web."""
        for raw, rows in ((ROAD, [4]), (STREETS, [2, 2]), (TRIANGLES, [3, 1]), (COMBS, [1, 2]), (SPACE, [1, 2, 1])):
            web = Web(*raw)
            greater = grouped(web, rows)
            more = tied_too(greater, (0, greater.places - 1, (3,) * raw[0]))
            fewer = cut(greater, greater.ties[-1])
            self.assert_unlike(web, more)
            self.assert_unlike(greater, more)
            if steady(fewer):
                self.assert_unlike(web, fewer)
                self.assert_unlike(more, fewer)
            other = tied_too(greater, (0, 0, (2,) * raw[0]))
            self.assert_unlike(more, other)


class ByChance(Like):
    """Small webs, two by two, compared with maps that are tried one by one."""

    def assert_like_trials(self, raws):
        placed, keys = [Placed(raw) for raw in raws], [key(Web(*raw)) for raw in raws]
        answers = []
        for at, other in combinations(range(len(raws)), 2):
            expected = alike(placed[at], placed[other])
            answers.append(expected)
            with self.subTest(one=raws[at], other=raws[other]):
                self.assertIs(same(Web(*raws[at]), Web(*raws[other])), expected)
                self.assertIs(keys[at] == keys[other], expected)
                found = map_of(Web(*raws[at]), Web(*raws[other]))
                self.assertIs(found is not None, expected)
                if expected:
                    self.assert_map(Web(*raws[at]), Web(*raws[other]))
        self.assertIn(True, answers)
        self.assertIn(False, answers)

    def steady_webs(self, directions, seed, many, **more):
        return [raw for raw in samples(seed, many, **more) if raw[0] == directions and is_steady(raw)]

    def test_one_direction(self):
        self.assert_like_trials(self.steady_webs(1, 60, 240, size=1, most_ties=5)[:32])

    def test_two_directions(self):
        self.assert_like_trials(self.steady_webs(2, 61, 500, size=1, most_ties=5)[:26])

    def test_three_directions(self):
        self.assert_like_trials(self.steady_webs(3, 62, 900, size=1, most_ties=5, most_places=3)[:13])


class Keys(unittest.TestCase):
    def test_kinds(self):
        for raw, _, _, _ in BY_HAND:
            found = key(Web(*raw))
            self.assertIs(type(found), tuple)
            self.assertEqual({type(number) for number in found}, {int})

    def test_maps_of_unlike_size(self):
        # One direction: the road told by cells of two and of three knots.
        road = Web(*ROAD)
        rows, _ = map_of(grouped(road, [2]), grouped(road, [3]))
        self.assertIn(rows, ([((2, 3),)], [((-2, 3),)]))
        rows, point = map_of(road, road)
        self.assertIn(rows, ([((1, 1),)], [((-1, 1),)]))
        self.assertEqual(point[0][1], 1)

    def test_new_lists(self):
        web = Web(*COMBS)
        first = map_of(web, web)
        kept = (list(first[0]), first[1])
        first[0].append("more")
        first[0][0] = None
        self.assertEqual(map_of(web, web), kept)

    def test_far_origins(self):
        for raw in (ROAD, COMBS, SCREWS):
            web = Web(*raw)
            far = renamed(web, [(place, (LONG - place,) * raw[0]) for place in range(raw[1])])
            self.assertEqual(key(far), key(web))
            self.assertIs(same(far, web), True)


if __name__ == "__main__":
    unittest.main()
