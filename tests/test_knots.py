"""[11], [13]: knots, and to which ones they are tied."""

import unittest
from random import Random

from cellwebs.errors import InvalidKnot
from cellwebs.webs import Web
from misfits import no_knots, refuse
from steps import ends, plus, samples

FAR = 10 ** 40 - 7


class Neighbours(unittest.TestCase):
    def test_none(self):
        self.assertEqual(Web(2, 2, []).neighbours((1, (3, 4))), [])
        self.assertEqual(Web(1, 3, [(0, 1, (5,))]).neighbours((2, (0,))), [])

    def test_a_place_tied_to_itself(self):
        web = Web(1, 1, [(0, 0, (3,)), (0, 0, (-1,))])
        self.assertEqual(web.neighbours((0, (0,))), [(0, (-3,)), (0, (-1,)), (0, (1,)), (0, (3,))])
        self.assertEqual(web.neighbours((0, (-2,))), [(0, (-5,)), (0, (-3,)), (0, (-1,)), (0, (1,))])

    def test_ends_of_a_tie(self):
        web = Web(2, 2, [(0, 1, (5, -2))])
        self.assertEqual(web.neighbours((0, (1, 1))), [(1, (6, -1))])
        self.assertEqual(web.neighbours((1, (6, -1))), [(0, (1, 1))])
        self.assertEqual(web.neighbours((1, (0, 0))), [(0, (-5, 2))])

    def test_two_ties_of_the_same_places(self):
        web = Web(2, 2, [(0, 1, (0, 0)), (1, 0, (0, 1)), (0, 1, (0, 3))])
        self.assertEqual(web.neighbours((0, (2, 2))), [(1, (2, 1)), (1, (2, 2)), (1, (2, 5))])
        self.assertEqual(web.neighbours((1, (2, 2))), [(0, (2, -1)), (0, (2, 2)), (0, (2, 3))])

    def test_a_tie_told_in_two_ways_is_one_neighbour(self):
        web = Web(1, 2, [(0, 1, (4,)), (1, 0, (-4,)), (1, 1, (2,)), (1, 1, (-2,)), (0, 1, (4,))])
        self.assertEqual(web.neighbours((0, (0,))), [(1, (4,))])
        self.assertEqual(web.neighbours((1, (4,))), [(0, (0,)), (1, (2,)), (1, (6,))])

    def test_ascending_by_place_then_by_cell(self):
        web = Web(2, 3, [(1, 2, (0, 0)), (1, 0, (9, 9)), (1, 1, (0, 1)), (1, 1, (1, -5)), (2, 1, (0, 1))])
        self.assertEqual(web.neighbours((1, (0, 0))), [
            (0, (9, 9)), (1, (-1, 5)), (1, (0, -1)), (1, (0, 1)), (1, (1, -5)), (2, (0, -1)), (2, (0, 0))])

    def test_far_cells_and_long_moves(self):
        long = 999999999999
        web = Web(3, 2, [(0, 0, (long, -long, 1)), (1, 0, (0, long, 0))])
        self.assertEqual(web.neighbours((0, (FAR, -FAR, 0))), [
            (0, (FAR - long, long - FAR, -1)), (0, (FAR + long, -long - FAR, 1)), (1, (FAR, -FAR - long, 0))])
        self.assertEqual(web.neighbours((1, (FAR, FAR, FAR))), [(0, (FAR, FAR + long, FAR))])

    def test_by_chance(self):
        chance = Random(13)
        for directions, places, ties in samples(130, 120, most_ties=9):
            web = Web(directions, places, ties)
            for place in range(places):
                cell = tuple(chance.choice((0, 1, -3, FAR, -FAR)) for _ in range(directions))
                with self.subTest(ties=ties, place=place, cell=cell):
                    self.assertEqual(web.neighbours((place, cell)), sorted(ends(ties, (place, cell))))

    def test_a_new_list_each_time(self):
        web = Web(1, 1, [(0, 0, (1,))])
        first = web.neighbours((0, (0,)))
        first.append("more")
        first[0] = None
        self.assertEqual(web.neighbours((0, (0,))), [(0, (-1,)), (0, (1,))])
        self.assertEqual(web.ties, [(0, 0, (1,))])

    def test_by_name(self):
        self.assertEqual(Web(1, 1, [(0, 0, (1,))]).neighbours(knot=(0, (5,))), [(0, (4,)), (0, (6,))])

    def test_refused(self):
        web = Web(2, 2, [(0, 1, (0, 0)), (0, 0, (0, 1))])
        for value in no_knots():
            with self.subTest(value=value):
                refuse(self, InvalidKnot, value, web.neighbours, value)
        self.assertEqual(web, Web(2, 2, [(0, 1, (0, 0)), (0, 0, (0, 1))]))

    def test_refused_in_one_and_three_directions(self):
        for cell in ((), (0, 0), [0], (True,), 0):
            value = (0, cell)
            refuse(self, InvalidKnot, value, Web(1, 1, []).neighbours, value)
        for cell in ((), (0,), (0, 0), (0, 0, 0, 0), [0, 0, 0], (0, 0, False)):
            value = (0, cell)
            refuse(self, InvalidKnot, value, Web(3, 1, []).neighbours, value)


class Tied(unittest.TestCase):
    def test_both_ways(self):
        web = Web(2, 2, [(0, 1, (5, -2)), (1, 1, (0, 2))])
        for one, other, tied in (
            ((0, (0, 0)), (1, (5, -2)), True),
            ((0, (0, 0)), (1, (-5, 2)), False),
            ((0, (3, 3)), (1, (8, 1)), True),
            ((0, (3, 3)), (1, (8, 2)), False),
            ((1, (0, 0)), (1, (0, 2)), True),
            ((1, (0, 0)), (1, (0, -2)), True),
            ((1, (0, 0)), (1, (2, 0)), False),
            ((1, (0, 0)), (1, (0, 4)), False),
            ((0, (0, 0)), (0, (0, 2)), False),
        ):
            self.assertIs(web.tied(one, other), tied)
            self.assertIs(web.tied(other, one), tied)

    def test_never_to_itself(self):
        web = Web(1, 2, [(0, 1, (0,)), (0, 0, (1,))])
        self.assertIs(web.tied((0, (0,)), (0, (0,))), False)
        self.assertIs(web.tied((1, (FAR,)), (1, (FAR,))), False)

    def test_far_cells(self):
        web = Web(2, 2, [(0, 1, (999999999999, 0))])
        self.assertIs(web.tied((0, (FAR, FAR)), (1, (FAR + 999999999999, FAR))), True)
        self.assertIs(web.tied((0, (FAR, FAR)), (1, (FAR + 999999999999, FAR + 1))), False)
        self.assertIs(web.tied((1, (FAR, FAR)), (0, (FAR - 999999999999, FAR))), True)
        self.assertIs(web.tied((0, (0, 0)), (1, (FAR, 0))), False)

    def test_by_chance(self):
        chance = Random(14)
        for directions, places, ties in samples(140, 90):
            web = Web(directions, places, ties)
            one = (chance.randrange(places), tuple(chance.choice((0, FAR)) for _ in range(directions)))
            near = ends(ties, one)
            for place in range(places):
                for _ in range(8):
                    other = (place, plus(one[1], [chance.randint(-2, 2) for _ in range(directions)]))
                    self.assertIs(web.tied(one, other), other in near)
                    self.assertIs(web.tied(other, one), other in near)
            for other in near:
                self.assertIs(web.tied(one, other), True)

    def test_by_name(self):
        self.assertIs(Web(1, 1, [(0, 0, (1,))]).tied(other=(0, (5,)), one=(0, (4,))), True)

    def test_refused(self):
        web, knot = Web(2, 2, [(0, 1, (0, 0)), (0, 0, (0, 1))]), (0, (0, 0))
        for value in no_knots():
            with self.subTest(value=value):
                refuse(self, InvalidKnot, value, web.tied, value, knot)
                refuse(self, InvalidKnot, value, web.tied, knot, value)
                refuse(self, InvalidKnot, value, web.tied, value, [value])
                refuse(self, InvalidKnot, value, web.tied, other=None, one=value)


if __name__ == "__main__":
    unittest.main()
