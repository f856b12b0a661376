"""[50], [51]: the points of knots, and steady webs."""

import unittest
from fractions import Fraction
from random import Random

from cellwebs.errors import InvalidWeb
from cellwebs.makings import beside, renamed, turned
from cellwebs.placing import placing, steady
from cellwebs.webs import Web
from known import BY_HAND, LADDER, LONG, STRIP_AS_LADDER, UNSTEADY, names_by_chance, turns_by_chance
from likes import all_joined, is_steady, points, read
from misfits import refuse, repr_of
from steps import ends, plus, samples, some_ties


def whole_webs(seed, many, **more):
    """Webs by chance in which all knots are joined."""
    return [raw for raw in samples(seed, many, **more) if all_joined(raw)]


def long_web(seed, directions, places, many, size=LONG):
    """A web of so many ties in which all knots are joined: a ring, a step in each direction, and ties by chance."""
    ring = [(at, (at + 1) % places, move) for at, (_, _, move) in enumerate(
        some_ties(seed, directions, places, places, size))] if places > 1 else []
    straight = [(0, 0, tuple(int(at == row) for at in range(directions))) for row in range(directions)]
    return (directions, places, ring + straight + some_ties(-seed, directions, places, many, size)[len(ring) + 3:])


class Placing(unittest.TestCase):
    def assert_placed(self, raw):
        """See that each point is the mean of the points of its neighbours: only one placing is so."""
        directions, places, ties = raw
        web = Web(*raw)
        before = repr_of(web)
        found = placing(web)
        self.assertEqual(repr_of(web), before)
        self.assertIs(type(found), list)
        self.assertEqual(len(found), places)
        told = [read(point) for point in found]
        self.assertEqual(found[0], ((0, 1),) * directions)
        for place in range(places):
            self.assertEqual(len(told[place]), directions)
            near = ends(ties, (place, (0,) * directions))
            total = (Fraction(0),) * directions
            for b, cell in near:
                total = plus(total, plus(told[b], cell))
            self.assertEqual(tuple(x / len(near) for x in total), told[place])
        return found

    def test_one_place(self):
        for raw in ((1, 1, [(0, 0, (1,))]), (2, 1, [(0, 0, (1, 0)), (0, 0, (5, 1))]),
                    (3, 1, [(0, 0, (0, 1, 0)), (0, 0, (1, 7, 0)), (0, 0, (0, 0, 1))])):
            self.assertEqual(placing(Web(*raw)), [((0, 1),) * raw[0]])

    def test_by_hand(self):
        for raw, expected in (
            # A road of three, of two with far origins, and of two with a tie more.
            ((1, 3, [(0, 1, (0,)), (1, 2, (0,)), (2, 0, (1,))]), [((0, 1),), ((1, 3),), ((2, 3),)]),
            ((1, 2, [(0, 1, (100,)), (1, 0, (-99,))]), [((0, 1),), ((-199, 2),)]),
            ((1, 2, [(0, 1, (0,)), (0, 1, (-1,)), (0, 1, (1,))]), [((0, 1),), ((0, 1),)]),
            ((1, 2, [(0, 1, (0,)), (0, 1, (-1,)), (0, 1, (-3,))]), [((0, 1),), ((4, 3),)]),
            # A dead end lies on its neighbour, ties of a place to itself pull to both sides.
            ((1, 2, [(0, 0, (1,)), (0, 1, (0,))]), [((0, 1),), ((0, 1),)]),
            ((1, 2, [(0, 0, (1,)), (0, 1, (4,))]), [((0, 1),), ((-4, 1),)]),
            ((1, 2, [(0, 0, (1,)), (1, 1, (5,)), (0, 1, (0,)), (1, 0, (1,))]), [((0, 1),), ((1, 2),)]),
            (LADDER, [((0, 1),), ((0, 1),)]),
            (STRIP_AS_LADDER, [((0, 1),), ((1, 2),)]),
            # Combs, diamond, and a knot within each tie of streets.
            ((2, 2, [(0, 1, (0, 0)), (0, 1, (1, 0)), (0, 1, (0, 1))]), [((0, 1), (0, 1)), ((-1, 3), (-1, 3))]),
            ((2, 2, [(1, 0, (0, 0)), (1, 0, (1, 0)), (1, 0, (0, 1))]), [((0, 1), (0, 1)), ((1, 3), (1, 3))]),
            ((3, 2, [(0, 1, (0, 0, 0)), (0, 1, (1, 0, 0)), (0, 1, (0, 1, 0)), (0, 1, (0, 0, 1))]),
             [((0, 1),) * 3, ((-1, 4),) * 3]),
            ((2, 3, [(0, 1, (0, 0)), (0, 2, (0, 0)), (1, 0, (1, 0)), (2, 0, (0, 1))]),
             [((0, 1), (0, 1)), ((1, 2), (0, 1)), ((0, 1), (1, 2))]),
        ):
            with self.subTest(raw=raw):
                self.assertEqual(placing(Web(*raw)), expected)
                self.assertEqual(self.assert_placed(raw), expected)

    def test_by_chance(self):
        for raw in whole_webs(50, 500, most_ties=8):
            with self.subTest(raw=raw):
                self.assert_placed(raw)

    def test_known_webs(self):
        for raw, _, _, _ in BY_HAND:
            self.assert_placed(raw)
        for raw, joined in UNSTEADY:
            if joined:
                self.assert_placed(raw)

    def test_far_origins(self):
        chance = Random(50)
        for raw in whole_webs(51, 40):
            rows = names_by_chance(chance, raw[0], raw[1], LONG)
            rows = [(place, move) for place, (_, move) in enumerate(rows)]
            web = Web(*raw)
            far = renamed(web, rows)
            self.assert_placed((raw[0], raw[1], far.ties))
            # The points are further on by how much the origins are nearer.
            for place, point in enumerate(placing(far)):
                shift = plus(rows[0][1], rows[place][1], -1)
                self.assertEqual(read(point), plus(read(placing(web)[place]), shift))

    def test_long_moves(self):
        for directions in (1, 2, 3):
            for places in (1, 2, 7, 12):
                self.assert_placed(long_web(places, directions, places, 24))

    def test_greatest_web(self):
        for directions in (1, 2, 3):
            self.assert_placed(long_web(directions, directions, 40, 120))
        ties = [(at, (at + 1) % 40, (int(at == 39),)) for at in range(40)]
        self.assertEqual(placing(Web(1, 40, ties)), [((0, 1),)] + [read_back(at, 40) for at in range(1, 40)])

    def test_numbers_of_a_web_that_was_returned(self):
        raw = long_web(60, 2, 5, 12)
        for _ in range(3):
            raw = (2, 5, turned(Web(*raw), turns_by_chance(Random(6), 2, LONG)).ties)
            self.assert_placed(raw)

    def test_new_lists(self):
        web = Web(1, 2, [(0, 1, (0,)), (1, 0, (1,))])
        first = placing(web)
        first.append("more")
        first[0] = None
        self.assertEqual(placing(web), [((0, 1),), ((1, 2),)])

    def test_refused(self):
        for raw, joined in UNSTEADY:
            if not joined:
                web = Web(*raw)
                refuse(self, InvalidWeb, web, placing, web)
                refuse(self, InvalidWeb, web, placing, web=web)
        for raw in samples(52, 200, most_ties=4):
            if not all_joined(raw):
                web = Web(*raw)
                refuse(self, InvalidWeb, web, placing, web)


def read_back(number, of):
    fraction = Fraction(number, of)
    return ((fraction.numerator, fraction.denominator),)


class Steady(unittest.TestCase):
    def test_steady(self):
        for raw, _, _, _ in BY_HAND:
            self.assertIs(steady(Web(*raw)), True)
        self.assertIs(steady(Web(*STRIP_AS_LADDER)), True)
        self.assertIs(steady(web=Web(1, 1, [(0, 0, (2,)), (0, 0, (3,))])), True)

    def test_not_steady(self):
        for raw, _ in UNSTEADY:
            with self.subTest(raw=raw):
                self.assertIs(steady(Web(*raw)), False)

    def test_two_steady_webs_side_by_side(self):
        for raw, _, _, _ in BY_HAND:
            self.assertIs(steady(beside(Web(*raw), Web(*raw))), False)

    def test_one_knot_too_many(self):
        """A dead end, or a knot like another one, makes any web unsteady."""
        for raw, _, _, _ in BY_HAND:
            directions, places, ties = raw
            dead_end = ties + [(places - 1, places, (3,) * directions)]
            self.assertIs(steady(Web(directions, places + 1, dead_end)), False)
            near = sorted(ends(ties, (0, (0,) * directions)))
            if all(b != 0 for b, _ in near):
                like = ties + [(places, b, plus(cell, (7,) * directions)) for b, cell in near]
                self.assertIs(steady(Web(directions, places + 1, like)), False)

    def test_by_chance(self):
        answers = []
        for raw in samples(53, 400):
            answers.append(is_steady(raw))
            with self.subTest(raw=raw):
                self.assertIs(steady(Web(*raw)), answers[-1])
        self.assertGreater(answers.count(True), 50)
        self.assertGreater(answers.count(False), 50)

    def test_far_origins_and_directions(self):
        chance = Random(54)
        for raw in [raw for raw, _, _, _ in BY_HAND] + [raw for raw, _ in UNSTEADY]:
            web = renamed(Web(*raw), names_by_chance(chance, raw[0], raw[1], LONG))
            web = turned(web, turns_by_chance(chance, raw[0], LONG))
            self.assertIs(steady(web), is_steady(raw))

    def test_greatest_web(self):
        for directions in (1, 2, 3):
            raw = long_web(directions + 7, directions, 40, 119)
            at = {tuple(x % 1 for x in point) for point in points(raw)}
            self.assertIs(steady(Web(*raw)), len(at) == 40)
            self.assertEqual(len(at), 40)
            ties = [(a % 39, b % 39, move) for a, b, move in raw[2] if a % 39 != b % 39]
            self.assertIs(steady(Web(directions, 40, ties + [(0, 39, (LONG,) * directions)])), False)
            self.assertIs(steady(Web(directions, 40, ties)), False)


if __name__ == "__main__":
    unittest.main()
