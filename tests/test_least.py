"""[63]: steps, and the least web that is the same."""

import unittest
from fractions import Fraction
from itertools import product

from cellwebs.likeness import key, least, steps
from cellwebs.makings import cut, grouped, renamed, tied_too, turned
from cellwebs.placing import steady
from cellwebs.webs import Web
from known import (
    BY_HAND, COMBS, DIAMOND, LONG, ONE_WAY, ROAD, SCREWS, SPACE, STREETS, WINDMILLS, raw_of, sizes_within,
    told_otherwise)
from likes import Placed, alike, is_steady, read, steps_by_trial
from misfits import repr_of
from steps import counts, determinant, in_form, samples


def ones(directions):
    return [tuple((int(row == at), 1) for at in range(directions)) for row in range(directions)]


class Steps(unittest.TestCase):
    def assert_steps(self, raw):
        """Compare with all moves of the points that are tried one by one."""
        web = Web(*raw)
        before = repr_of(web)
        found = steps(web)
        self.assertEqual(repr_of(web), before)
        self.assertIs(type(found), list)
        rows = [read(row) for row in found]
        self.assertEqual([len(row) for row in rows], [raw[0]] * raw[0])
        self.assertTrue(in_form(rows))
        trials = steps_by_trial(Placed(raw))
        for row in rows:
            self.assertIn(tuple(x % 1 for x in row), trials)
        # As many of their sums lie in a cell as there are steps in it, so none is left out, nor is a whole cell.
        self.assertEqual(1 / Fraction(determinant(rows)), len(trials))
        return found

    def test_webs_with_no_lesser_cell(self):
        for raw, _, _, _ in BY_HAND:
            self.assertEqual(steps(Web(*raw)), ones(raw[0]))
            self.assert_steps(raw)

    def test_greater_cells_along_the_directions(self):
        for raw in (ROAD, ONE_WAY, STREETS, COMBS, WINDMILLS, SPACE, DIAMOND, SCREWS):
            for rows in sizes_within(raw[0], 12 // raw[1]):
                expected = [tuple((1, rows[at]) if at == row else (0, 1) for at in range(raw[0]))
                            for row in range(raw[0])]
                self.assertEqual(steps(grouped(Web(*raw), rows)), expected)

    def test_by_hand(self):
        streets = Web(*STREETS)
        self.assertEqual(steps(grouped(streets, [1, 3])), [((1, 1), (0, 1)), ((0, 1), (1, 3))])
        # The lesser cells lie askew: half a cell to both sides, a third to the one and two thirds to the other.
        self.assertEqual(
            steps(turned(grouped(streets, [2, 1]), [(1, 1), (0, 1)])), [((1, 2), (1, 2)), ((0, 1), (1, 1))])
        self.assertEqual(
            steps(turned(grouped(streets, [3, 1]), [(1, 2), (0, 1)])), [((1, 3), (2, 3)), ((0, 1), (1, 1))])
        self.assertEqual(
            steps(turned(grouped(streets, [3, 1]), [(1, -2), (0, -1)])), [((1, 3), (1, 3)), ((0, 1), (1, 1))])
        self.assertEqual(
            steps(turned(grouped(streets, [1, 4]), [(0, 1), (1, 2)])), [((1, 4), (1, 2)), ((0, 1), (1, 1))])
        space = Web(*SPACE)
        self.assertEqual(
            steps(turned(grouped(space, [2, 1, 2]), [(1, 1, 1), (0, 1, 0), (0, 0, 1)])),
            [((1, 2), (1, 2), (0, 1)), ((0, 1), (1, 1), (0, 1)), ((0, 1), (0, 1), (1, 2))])
        self.assertEqual(
            steps(turned(grouped(space, [1, 2, 1]), [(1, 0, 0), (0, 1, 1), (0, 0, 1)])),
            [((1, 1), (0, 1), (0, 1)), ((0, 1), (1, 2), (1, 2)), ((0, 1), (0, 1), (1, 1))])

    def test_told_otherwise(self):
        for number, (raw, _, _, _) in enumerate(BY_HAND):
            for other in told_otherwise(Web(*raw), 63 + number):
                with self.subTest(other=raw_of(other)):
                    self.assert_steps(raw_of(other))

    def test_by_chance(self):
        for raw in samples(63, 300, size=1):
            if is_steady(raw):
                with self.subTest(raw=raw):
                    self.assert_steps(raw)

    def test_some_steps_only(self):
        """A tie more in a greater cell leaves fewer steps."""
        greater = tied_too(grouped(Web(*ROAD), [6]), (0, 3, (0,)))
        self.assertEqual(steps(greater), [((1, 1),)])
        both = tied_too(greater, (3, 0, (1,)))
        self.assertEqual(steps(both), [((1, 2),)])
        for web in (greater, both):
            self.assert_steps(raw_of(web))

    def test_new_lists(self):
        web = Web(*COMBS)
        first = steps(web)
        first.append("more")
        first[0] = None
        self.assertEqual(steps(web), ones(2))


class Least(unittest.TestCase):
    def assert_least(self, raw):
        """See that the least web is the same, with as many places as there are steps to a place; return it."""
        web = Web(*raw)
        before = repr_of(web)
        found = least(web)
        self.assertEqual(repr_of(web), before)
        self.assertIs(type(found), Web)
        self.assertEqual(found.directions, raw[0])
        placed = Placed(raw)
        many = len(steps_by_trial(placed))
        self.assertEqual(found.places * many, raw[1])
        self.assertEqual(len(found.ties) * many, len(web.ties))
        self.assertTrue(alike(placed, Placed(raw_of(found))))
        self.assertEqual(least(found), found)
        return found

    def test_by_hand(self):
        self.assertEqual(least(Web(*ROAD)), Web(*ROAD))
        self.assertEqual(least(grouped(Web(*ROAD), [12])), Web(*ROAD))
        found = least(grouped(Web(*SPACE), [2, 1, 3]))
        self.assertEqual((found.places, len(found.ties)), (1, 3))

    def test_known_webs(self):
        for raw, _, _, _ in BY_HAND:
            found = self.assert_least(raw)
            self.assertEqual(found.places, raw[1])

    def test_told_otherwise(self):
        for number, (raw, _, _, _) in enumerate(BY_HAND):
            found = least(Web(*raw))
            for other in told_otherwise(Web(*raw), 163 + number):
                self.assertEqual(least(other), found)

    def test_greater_cells(self):
        for raw in (STREETS, COMBS, WINDMILLS):
            found = least(Web(*raw))
            for rows in sizes_within(2, 12 // raw[1]):
                self.assertEqual(least(grouped(Web(*raw), rows)), found)

    def test_by_chance(self):
        webs = []
        for raw in samples(64, 240, size=1, most_ties=5):
            if is_steady(raw):
                with self.subTest(raw=raw):
                    webs.append((key(Web(*raw)), self.assert_least(raw)))
        for (one_key, one), (other_key, other) in product(webs, webs):
            self.assertIs(one == other, one_key == other_key)

    def test_a_tie_more(self):
        greater = tied_too(grouped(Web(*ROAD), [6]), (0, 3, (0,)))
        self.assertEqual(self.assert_least(raw_of(greater)).places, 6)
        self.assertEqual(self.assert_least(raw_of(tied_too(greater, (3, 0, (1,))))).places, 3)
        streets = grouped(Web(*STREETS), [2, 2])
        fewer = cut(streets, streets.ties[0])
        self.assertTrue(steady(fewer))
        self.assertEqual(self.assert_least(raw_of(fewer)).places, 4)

    def test_shells(self):
        """The knots of the least web have as many knots around them as those of the given one."""
        for raw in (ONE_WAY, COMBS, WINDMILLS, SCREWS):
            greater = grouped(Web(*raw), [2] + [1] * (raw[0] - 1))
            found = least(greater)
            noughts = (0,) * raw[0]
            given = sorted(counts(raw[2], (place, noughts), 5) for place in range(raw[1]))
            made = sorted(counts(found.ties, (place, noughts), 5) for place in range(found.places))
            self.assertEqual(made, given)

    def test_far_origins(self):
        for raw in (ROAD, ONE_WAY, COMBS, SCREWS):
            web = Web(*raw)
            rows = [((place + 1) % raw[1], (LONG - place,) * raw[0]) for place in range(raw[1])]
            self.assertEqual(least(renamed(web, rows)), least(web))


if __name__ == "__main__":
    unittest.main()
