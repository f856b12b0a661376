"""[25]: webs that two colours are enough for."""

import unittest
from random import Random

from cellwebs.parts import even
from cellwebs.webs import Web
from steps import circuits, common, rank, samples, some_ties, within

LONG = 10 ** 12 - 1


def counted(ties):
    """The ties with a last number that counts them."""
    return [(a, b, move + (1,)) for a, b, move in ties]


class Even(unittest.TestCase):
    def test_even_by_hand(self):
        for directions, places, ties in (
            (1, 1, []),
            (3, 5, []),
            (1, 1, [(0, 0, (1,))]),
            (1, 1, [(0, 0, (2,))]),
            (1, 1, [(0, 0, (1,)), (0, 0, (3,))]),
            (1, 1, [(0, 0, (3,)), (0, 0, (5,))]),
            (1, 1, [(0, 0, (2,)), (0, 0, (6,))]),
            (1, 1, [(0, 0, (LONG,)), (0, 0, (LONG - 2,))]),
            (1, 2, [(0, 1, (0,)), (0, 1, (1,))]),
            (1, 2, [(0, 1, (0,)), (0, 0, (1,)), (1, 1, (1,))]),
            (1, 3, [(0, 1, (0,)), (1, 2, (0,)), (2, 0, (1,))]),
            (2, 1, [(0, 0, (1, 0)), (0, 0, (0, 1))]),
            (2, 1, [(0, 0, (1, 0)), (0, 0, (0, 1)), (0, 0, (2, 1))]),
            (2, 1, [(0, 0, (2, 0)), (0, 0, (1, 3))]),
            (2, 2, [(0, 1, (0, 0)), (0, 1, (1, 0)), (0, 1, (0, 1))]),
            (3, 1, [(0, 0, (1, 0, 0)), (0, 0, (0, 1, 0)), (0, 0, (0, 0, 1)), (0, 0, (1, 1, 1))]),
            (3, 2, [(0, 1, (0, 0, 0)), (0, 1, (1, 0, 0)), (0, 1, (0, 1, 0)), (0, 1, (0, 0, 1))]),
            (2, 4, [(0, 1, (0, 0)), (1, 2, (0, 0)), (2, 3, (0, 0)), (3, 0, (0, 0))]),
        ):
            self.assertIs(even(Web(directions, places, ties)), True)

    def test_uneven_by_hand(self):
        for directions, places, ties in (
            (1, 1, [(0, 0, (1,)), (0, 0, (2,))]),
            (1, 1, [(0, 0, (2,)), (0, 0, (4,))]),
            (1, 1, [(0, 0, (2,)), (0, 0, (3,))]),
            (1, 1, [(0, 0, (1,)), (0, 0, (4,))]),
            (1, 1, [(0, 0, (LONG,)), (0, 0, (LONG - 1,))]),
            (1, 2, [(0, 1, (0,)), (0, 1, (1,)), (0, 0, (1,))]),
            (1, 2, [(0, 1, (0,)), (0, 1, (3,)), (0, 0, (2,)), (1, 1, (1,))]),
            (1, 3, [(0, 1, (0,)), (1, 2, (0,)), (2, 0, (0,))]),
            (1, 3, [(0, 1, (0,)), (1, 2, (0,)), (2, 0, (1,)), (0, 0, (1,)), (1, 1, (2,))]),
            (2, 1, [(0, 0, (1, 0)), (0, 0, (0, 1)), (0, 0, (1, 1))]),
            (2, 1, [(0, 0, (1, 0)), (0, 0, (0, 1)), (0, 0, (100, 301)), (0, 0, (7, 5))]),
            (2, 2, [(0, 1, (0, 0)), (0, 1, (1, 0)), (0, 1, (0, 1)), (1, 1, (1, 1))]),
            (3, 1, [(0, 0, (1, 1, 0)), (0, 0, (1, 0, 1)), (0, 0, (0, 1, 1)), (0, 0, (2, 1, 1))]),
            (3, 1, [(0, 0, (1, -1, 0)), (0, 0, (0, 1, -1)), (0, 0, (-1, 0, 1))]),
        ):
            self.assertIs(even(Web(directions, places, ties)), False)

    def test_one_uneven_part_is_enough(self):
        ties = [(0, 0, (1,)), (2, 2, (1,)), (1, 1, (1,))]
        self.assertIs(even(Web(1, 3, ties)), True)
        for place in range(3):
            self.assertIs(even(Web(1, 3, ties + [(place, place, (2,))])), False)
        self.assertIs(even(Web(1, 4, ties + [(3, 3, (5,)), (3, 3, (10,))])), False)

    def test_step_by_step(self):
        for directions, places, ties in samples(250, 150, most_ties=4):
            size = {1: 30, 2: 12, 3: 6}[directions]
            fits = [within(ties, (place, (0,) * directions), size)[1] for place in range(places)]
            with self.subTest(ties=ties):
                self.assertIs(even(Web(directions, places, ties)), all(fits))

    def test_closed_ways_over_many_cells(self):
        # The rounds and their counts, with (0, .., 2): no round is (0, .., 1) if their determinants are even.
        answers = []
        for seed in range(60):
            directions, places = seed % 3 + 1, seed % 2 + 1
            ties = some_ties(seed, directions, places, directions + places, 40 if seed % 2 else LONG)
            if seed % 4 > 1:
                ties = [(a, b, tuple(2 * x + (at == 0) for at, x in enumerate(move))) for a, b, move in ties]
            fits = []
            for place in range(places):
                _, moves = circuits(directions, ties, place)
                _, rounds = circuits(directions + 1, counted(ties), place)
                size = rank(moves)
                more = rounds + [(0,) * directions + (2,)]
                fits.append(common(more, size + 1) == 2 * common(moves, size))
            answers.append(all(fits))
            with self.subTest(ties=ties):
                self.assertIs(even(Web(directions, places, ties)), all(fits))
        self.assertIn(True, answers)
        self.assertIn(False, answers)

    def test_greatest_web(self):
        chance = Random(251)
        ties = [(chance.randrange(20), chance.randrange(20, 40), tuple(chance.randint(-LONG, LONG) for _ in "xyz"))
                for _ in range(119)]
        self.assertIs(even(Web(3, 40, ties)), True)
        self.assertIs(even(Web(3, 40, ties + [(0, 2, (0, 0, 1))])), False)
        self.assertIs(even(Web(3, 40, ties + [(39, 39, (0, LONG, 1))])), False)


if __name__ == "__main__":
    unittest.main()
