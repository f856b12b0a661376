"""[64]: symmetries, kinds of places, and handed webs."""

import unittest

from cellwebs.likeness import handed, key, kinds, least, map_of, same, steps, symmetries
from cellwebs.makings import grouped, product, tied_too, turned
from cellwebs.webs import Web
from known import (
    BY_HAND, COMBS, CROSSED, DIAMOND, HALF_DIAMOND, LONG, ONE_WAY, ROAD, SCREWS, STREETS, TRIANGLES, WINDMILLS, raw_of,
    sizes_within, told_otherwise)
from likes import Placed, is_steady, maps
from misfits import repr_of
from steps import determinant, samples


def numbers(web):
    return [symmetries(web, place) for place in range(web.places)]


class ByHand(unittest.TestCase):
    def test_symmetries(self):
        for raw, expected, _, _ in BY_HAND:
            with self.subTest(raw=raw):
                self.assertEqual(numbers(Web(*raw)), expected)

    def test_kinds(self):
        for raw, _, expected, _ in BY_HAND:
            with self.subTest(raw=raw):
                self.assertEqual(kinds(Web(*raw)), expected)

    def test_handed(self):
        for raw, _, _, expected in BY_HAND:
            with self.subTest(raw=raw):
                self.assertIs(handed(Web(*raw)), expected)

    def test_streets_with_one_tie_more(self):
        # A tie from (0, 0) to (1, 1) in each cell of two by two: the mirror along it and the one across it stay.
        web = tied_too(grouped(Web(*STREETS), [2, 2]), (0, 3, (0, 0)))
        self.assertEqual(numbers(web), [2, 2, 2, 2])
        self.assertEqual(kinds(web), [[0, 3], [1, 2]])
        self.assertIs(handed(web), False)

    def test_a_road_with_one_tie_more(self):
        # The tie from 0 to 2 in every sixth: its middle is the knot 1, and half a cell on there is 4.
        web = tied_too(grouped(Web(*ROAD), [6]), (0, 2, (0,)))
        self.assertEqual(numbers(web), [1, 2, 1, 1, 2, 1])
        self.assertEqual(kinds(web), [[0, 2], [1], [3, 5], [4]])
        self.assertIs(handed(web), False)

    def test_two_ties_more(self):
        # Over two, over three, and two without a tie over them, then again: backwards this is another order.
        web = tied_too(tied_too(grouped(Web(*ROAD), [7]), (0, 2, (0,))), (2, 5, (0,)))
        self.assertEqual(numbers(web), [1, 1, 1, 1, 1, 1, 1])
        self.assertEqual(kinds(web), [[place] for place in range(7)])
        self.assertIs(handed(web), True)
        # Without the two, the one knot between is the only one that tells where it is turned over.
        web = tied_too(tied_too(grouped(Web(*ROAD), [5]), (0, 2, (0,))), (2, 5 - 5, (1,)))
        self.assertEqual(numbers(web), [1, 2, 1, 1, 1])
        self.assertEqual(kinds(web), [[0, 2], [1], [3, 4]])
        self.assertIs(handed(web), False)

    def test_products(self):
        """Windmills in layers can be turned over, and so can streets along a handed road, from side to side."""
        layers = product(Web(*WINDMILLS), Web(*ROAD))
        self.assertEqual(numbers(layers), [2] * 6)
        self.assertIs(handed(layers), False)
        towers = product(Web(*STREETS), Web(*ONE_WAY))
        self.assertEqual(numbers(towers), [8, 8, 8])
        self.assertEqual(kinds(towers), [[0], [1], [2]])
        self.assertIs(handed(towers), False)

    def test_kinds_of_values(self):
        web = Web(*COMBS)
        self.assertIs(type(symmetries(web, 1)), int)
        self.assertIs(type(kinds(web)), list)
        self.assertIs(type(kinds(web)[0]), list)
        first = kinds(grouped(web, [2, 1]))
        self.assertEqual(first, [[0, 1, 2, 3]])


class ToldOtherwise(unittest.TestCase):
    def test_numbers_and_kinds(self):
        """Each answer is that of the place which the knot had before, whatever its new name."""
        for number, (raw, expected, lists, is_handed) in enumerate(BY_HAND):
            for other in told_otherwise(Web(*raw), 264 + number):
                many = other.places // raw[1]
                with self.subTest(other=raw_of(other)):
                    self.assertEqual(sorted(numbers(other)), sorted(expected * many))
                    found = kinds(other)
                    self.assertEqual(sorted(len(kind) for kind in found), sorted(len(kind) * many for kind in lists))
                    self.assertEqual(sorted(place for kind in found for place in kind), list(range(other.places)))
                    self.assertEqual([sorted(kind) for kind in found], found)
                    self.assertEqual(sorted(found), found)
                    self.assertIs(handed(other), is_handed)

    def test_greater_cells(self):
        for raw, expected, lists, is_handed in BY_HAND:
            for rows in sizes_within(raw[0], min(12 // raw[1], 12 // raw[0])):
                greater = grouped(Web(*raw), rows)
                many = greater.places // raw[1]
                self.assertEqual(numbers(greater), expected * many)
                self.assertEqual(
                    kinds(greater), [sorted(place + raw[1] * at for place in kind for at in range(many)) for kind in lists])
                self.assertIs(handed(greater), is_handed)


class ByChance(unittest.TestCase):
    """Small webs, compared with maps that are tried one by one."""

    def assert_like_trials(self, raw):
        web, placed = Web(*raw), Placed(raw)
        before = repr_of(web)
        trials = [[maps(placed, placed, place, goal) for goal in range(raw[1])] for place in range(raw[1])]
        self.assertEqual(numbers(web), [len(trials[place][place]) for place in range(raw[1])])
        lists = []
        for place in range(raw[1]):
            kind = [goal for goal in range(raw[1]) if trials[place][goal]]
            if kind not in lists:
                lists.append(kind)
        self.assertEqual(kinds(web), lists)
        signs = {determinant(rows) > 0 for found in trials[0] for rows, _ in found}
        self.assertIs(handed(web), signs == {True})
        self.assertEqual(repr_of(web), before)
        return signs == {True}

    def test_small_webs(self):
        answers = []
        for raw in samples(64, 420, size=1):
            if is_steady(raw):
                with self.subTest(raw=raw):
                    answers.append(self.assert_like_trials(raw))
        self.assertIn(True, answers)
        self.assertIn(False, answers)

    def test_wider_webs(self):
        for raw in samples(65, 150, size=2, most_ties=5, most_places=5):
            if is_steady(raw) and raw[0] < 3:
                with self.subTest(raw=raw):
                    self.assert_like_trials(raw)

    def test_known_webs(self):
        for raw in (ROAD, ONE_WAY, STREETS, TRIANGLES, CROSSED, COMBS, DIAMOND):
            self.assert_like_trials(raw)


class AlsoAfterOthers(unittest.TestCase):
    def test_the_same_answers_again(self):
        for raw in (ONE_WAY, COMBS, HALF_DIAMOND, SCREWS):
            web = turned(grouped(Web(*raw), [2] + [1] * (raw[0] - 1)), {
                1: [(-1,)], 2: [(1, LONG), (0, 1)], 3: [(1, 0, LONG), (0, -1, 3), (0, 0, 1)]}[raw[0]])
            first = [numbers(web), kinds(web), handed(web), key(web), steps(web), least(web), map_of(web, web)]
            self.assertIs(same(web, Web(*raw)), True)
            kinds(web)[0].append("more")
            least(web).ties.append("more")
            again = [numbers(web), kinds(web), handed(web), key(web), steps(web), least(web), map_of(web, web)]
            self.assertEqual(again, first)
            other = Web(web.directions, web.places, list(reversed(web.ties)))
            self.assertEqual(
                [numbers(other), kinds(other), handed(other), key(other), steps(other), least(other),
                 map_of(other, other)], first)


if __name__ == "__main__":
    unittest.main()
