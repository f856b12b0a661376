"""[20], [21], [22]: joined knots, and the parts of webs."""

import unittest
from itertools import product
from random import Random

from cellwebs.parts import joined, lattice, parted, strands, whole
from cellwebs.webs import Web
from steps import circuits, common, in_form, is_sum, lists_of, plus, rank, samples, some_ties, within

FAR = 10 ** 40 - 7
LONG = 10 ** 12 - 1

# (directions, places, ties, the lattice of each place, the list of lists of places, strands of each place)
BY_HAND = [
    (1, 1, [], [[]], [[0]], [None]),
    (3, 2, [], [[], []], [[0], [1]], [None, None]),
    (1, 1, [(0, 0, (1,))], [[(1,)]], [[0]], [1]),
    (1, 1, [(0, 0, (-7,))], [[(7,)]], [[0]], [7]),
    (1, 1, [(0, 0, (-6,)), (0, 0, (4,))], [[(2,)]], [[0]], [2]),
    (1, 2, [(0, 1, (5,))], [[], []], [[0, 1]], [None, None]),
    (1, 2, [(0, 1, (5,)), (1, 0, (-2,))], [[(3,)], [(3,)]], [[0, 1]], [3, 3]),
    (1, 3, [(0, 2, (0,)), (2, 0, (1,))], [[(1,)], [], [(1,)]], [[0, 2], [1]], [1, None, 1]),
    (1, 4, [(3, 1, (0,)), (2, 0, (0,)), (1, 3, (6,)), (0, 0, (4,))], [[(4,)], [(6,)], [(4,)], [(6,)]],
     [[0, 2], [1, 3]], [4, 6, 4, 6]),
    (2, 1, [(0, 0, (-2, 4))], [[(2, -4)]], [[0]], [None]),
    (2, 1, [(0, 0, (0, -3))], [[(0, 3)]], [[0]], [None]),
    (2, 1, [(0, 0, (-2, 4)), (0, 0, (3, -6))], [[(1, -2)]], [[0]], [None]),
    (2, 1, [(0, 0, (2, 0)), (0, 0, (1, 3))], [[(1, 3), (0, 6)]], [[0]], [6]),
    (2, 1, [(0, 0, (1, 1)), (0, 0, (1, -1))], [[(1, 1), (0, 2)]], [[0]], [2]),
    (2, 1, [(0, 0, (1, 7)), (0, 0, (0, 3))], [[(1, 1), (0, 3)]], [[0]], [3]),
    (2, 1, [(0, 0, (4, -1)), (0, 0, (0, 5))], [[(4, 4), (0, 5)]], [[0]], [20]),
    (2, 2, [(0, 1, (0, 0)), (0, 1, (1, 0)), (0, 1, (0, 1))], [[(1, 0), (0, 1)]] * 2, [[0, 1]], [1, 1]),
    (2, 2, [(0, 0, (1, 0)), (1, 1, (0, 2))], [[(1, 0)], [(0, 2)]], [[0], [1]], [None, None]),
    (3, 1, [(0, 0, (0, 2, 1)), (0, 0, (0, 0, -3))], [[(0, 2, 1), (0, 0, 3)]], [[0]], [None]),
    (3, 1, [(0, 0, (0, 2, 1)), (0, 0, (5, 0, 0))], [[(5, 0, 0), (0, 2, 1)]], [[0]], [None]),
    (3, 1, [(0, 0, (1, 1, 0)), (0, 0, (1, 0, 1)), (0, 0, (0, 1, 1))], [[(1, 0, 1), (0, 1, 1), (0, 0, 2)]], [[0]],
     [2]),
    (3, 1, [(0, 0, (1, 1, 1)), (0, 0, (1, 1, -1)), (0, 0, (1, -1, 1)), (0, 0, (-1, 1, 1))],
     [[(1, 1, 1), (0, 2, 0), (0, 0, 2)]], [[0]], [4]),
    (3, 2, [(0, 1, (5, 0, 0)), (1, 0, (-4, 2, 2))], [[(1, 2, 2)], [(1, 2, 2)]], [[0, 1]], [None, None]),
    (3, 2, [(1, 1, (LONG, 0, 0)), (1, 1, (0, LONG, 0)), (1, 1, (0, 0, LONG))],
     [[], [(LONG, 0, 0), (0, LONG, 0), (0, 0, LONG)]], [[0], [1]], [None, LONG ** 3]),
]


def coloured_ties(chance, directions, places, many, pull, modulus):
    """Ties over which `pull` times the cell plus the place, modulo `modulus`, never changes."""
    ties = []
    while len(ties) < many:
        a, b = chance.randrange(places), chance.randrange(places)
        move = [chance.randint(-LONG, LONG) // (100 * modulus) for _ in range(directions)]
        at = pull.index(1)
        rest = sum(x * y for x, y in zip(pull, move)) - move[at]
        move[at] = a - b - rest + modulus * chance.randint(-99, 99)
        if a != b or any(move):
            ties.append((a, b, tuple(move)))
    return ties


class ByHand(unittest.TestCase):
    def test_lattice(self):
        for directions, places, ties, lattices, _, _ in BY_HAND:
            web = Web(directions, places, ties)
            self.assertEqual([lattice(web, place) for place in range(places)], lattices)

    def test_parted(self):
        for directions, places, ties, _, lists, _ in BY_HAND:
            self.assertEqual(parted(Web(directions, places, ties)), lists)

    def test_strands(self):
        for directions, places, ties, _, _, numbers in BY_HAND:
            web = Web(directions, places, ties)
            self.assertEqual([strands(web, place) for place in range(places)], numbers)

    def test_whole(self):
        for directions, places, ties, _, lists, numbers in BY_HAND:
            self.assertIs(whole(Web(directions, places, ties)), len(lists) == 1 and numbers[0] == 1)
        self.assertIs(whole(Web(1, 1, [])), False)
        self.assertIs(whole(Web(1, 1, [(0, 0, (2,)), (0, 0, (3,))])), True)
        self.assertIs(whole(Web(1, 2, [(0, 0, (1,)), (1, 1, (1,))])), False)
        self.assertIs(whole(Web(1, 2, [(0, 1, (0,)), (0, 1, (2,))])), False)
        self.assertIs(whole(Web(1, 2, [(0, 1, (0,)), (0, 1, (1,))])), True)

    def test_kinds(self):
        web = Web(2, 1, [(0, 0, (1, 0)), (0, 0, (0, 1))])
        self.assertIs(type(lattice(web, 0)), list)
        self.assertIs(type(lattice(web, 0)[0]), tuple)
        self.assertIs(type(strands(web, 0)), int)
        self.assertIs(type(parted(web)[0]), list)


class StepByStep(unittest.TestCase):
    """Small webs, compared with what one comes to within a wide window, tie by tie."""

    def test_joined_and_lattice(self):
        for directions, places, ties in samples(20, 60, most_ties=5):
            web, noughts = Web(directions, places, ties), (0,) * directions
            reached, _ = within(ties, (0, noughts), {1: 60, 2: 14, 3: 7}[directions])
            rows = lattice(web, 0)
            with self.subTest(ties=ties):
                for cell in product(range(-2, 3), repeat=directions):
                    self.assertIs(is_sum(rows, cell), (0, cell) in reached)
                    for place in range(places):
                        knot = (place, cell)
                        self.assertIs(joined(web, (0, noughts), knot), knot in reached)
                        self.assertIs(joined(web, knot, (0, noughts)), knot in reached)

    def test_lattice_in_form(self):
        for directions, places, ties in samples(21, 200, most_ties=8, size=6):
            web = Web(directions, places, ties)
            for place in range(places):
                self.assert_lattice(web, directions, ties, place)

    def test_long_moves(self):
        for seed in range(30):
            directions, places = seed % 3 + 1, seed % 7 + 1
            ties = some_ties(seed, directions, places, places + seed % 5, LONG)
            web = Web(directions, places, ties)
            for place in range(places):
                self.assert_lattice(web, directions, ties, place)

    def test_greatest_web(self):
        ties = [(a, b, tuple(x // 60 * y for x, y in zip(move, (2, 3, 60))))
                for a, b, move in some_ties(0, 3, 40, 120, LONG)]
        web = Web(3, 40, ties)
        self.assertEqual(len(web.ties), 120)
        self.assertEqual(parted(web), lists_of(40, ties))
        _, moves = circuits(3, ties, 0)
        many = common(moves, 3)
        rows = lattice(web, 0)
        self.assertEqual(many % 360, 0)
        self.assertEqual((len(rows), common(rows, 3), strands(web, 0)), (3, many, many))
        self.assertTrue(in_form(rows))
        self.assertTrue(all(is_sum(rows, move) for move in moves))

    def test_parted(self):
        for directions, places, ties in samples(22, 150, most_places=12):
            self.assertEqual(parted(Web(directions, places, ties)), lists_of(places, ties))

    def test_strands_and_whole(self):
        for directions, places, ties in samples(23, 150, most_ties=8, size=3, most_places=3):
            web = Web(directions, places, ties)
            numbers = []
            for place in range(places):
                _, moves = circuits(directions, ties, place)
                numbers.append(common(moves, directions) or None)
                self.assertEqual(strands(web, place), numbers[-1])
            self.assertIs(whole(web), len(lists_of(places, ties)) == 1 and numbers[0] == 1)

    def assert_lattice(self, web, directions, ties, place):
        """The rows are in the form; all closed ways are sums of them, and they have no other sums.

        The last holds if the greatest divisors of their determinants are alike.
        """
        rows = lattice(web, place)
        _, moves = circuits(directions, ties, place)
        with self.subTest(ties=ties, place=place):
            self.assertTrue(in_form(rows))
            self.assertTrue(all(is_sum(rows, move) for move in moves))
            self.assertEqual(len(rows), rank(moves))
            self.assertEqual(common(rows, len(rows)), common(moves, len(rows)))


class FarAway(unittest.TestCase):
    def test_by_hand(self):
        wires = Web(2, 2, [(0, 0, (2, 0)), (0, 0, (1, 3)), (1, 1, (0, -2))])
        far = 10 ** 39
        self.assertIs(joined(wires, (0, (0, 0)), (0, (far, 3 * far))), True)
        self.assertIs(joined(wires, (0, (0, 0)), (0, (far + 1, 3 * far))), False)
        self.assertIs(joined(wires, (0, (5, 5)), (0, (far + 5, 3 * far + 5))), True)
        self.assertIs(joined(wires, (1, (far, 0)), (1, (far, 8 * far))), True)
        self.assertIs(joined(wires, (1, (far, 0)), (1, (far, 8 * far + 1))), False)
        self.assertIs(joined(wires, (1, (far, 0)), (1, (far + 1, 8 * far))), False)
        self.assertIs(joined(wires, (0, (0, 0)), (1, (0, 0))), False)

    def test_a_knot_to_itself(self):
        self.assertIs(joined(Web(1, 1, []), (0, (FAR,)), (0, (FAR,))), True)
        self.assertIs(joined(Web(1, 1, []), (0, (FAR,)), (0, (FAR + 1,))), False)
        self.assertIs(joined(Web(3, 2, []), (0, (0, 0, 0)), (1, (0, 0, 0))), False)

    def test_over_other_places(self):
        web = Web(1, 2, [(0, 1, (5,)), (1, 0, (-2,))])
        self.assertIs(joined(web, (0, (0,)), (1, (5 + 3 * FAR,))), True)
        self.assertIs(joined(web, (1, (5 + 3 * FAR,)), (0, (0,))), True)
        self.assertIs(joined(web, (0, (0,)), (1, (6 + 3 * FAR,))), False)
        self.assertIs(joined(web, (1, (0,)), (0, (5,))), False)
        self.assertIs(joined(web, (1, (0,)), (0, (4,))), True)

    def test_joined_over_many_rounds(self):
        chance = Random(24)
        for number in range(60):
            directions, places = number % 3 + 1, chance.randint(1, 6)
            ties = some_ties(number, directions, places, places + 3, LONG)
            offsets, moves = circuits(directions, ties, 0)
            web, cell = Web(directions, places, ties), tuple(chance.randint(-FAR, FAR) for _ in range(directions))
            for place in offsets:
                end = plus(cell, offsets[place])
                for move in moves:
                    end = plus(end, move, chance.randint(-10 ** 27, 10 ** 27))
                self.assertIs(joined(web, (0, cell), (place, end)), True)
                self.assertIs(joined(web, (place, end), (0, cell)), True)

    def test_never_joined(self):
        chance = Random(25)
        for number in range(60):
            directions, places, modulus = number % 3 + 1, chance.randint(1, 6), chance.randint(2, 9)
            pull = [chance.randint(-3, 3) for _ in range(directions)]
            pull[chance.randrange(directions)] = 1
            ties = coloured_ties(chance, directions, places, places + 6, pull, modulus)
            web = Web(directions, places, ties)
            for _ in range(20):
                one, other = [(chance.randrange(places), tuple(chance.randint(-FAR, FAR) for _ in range(directions)))
                              for _ in "ab"]
                colours = [(place + sum(x * y for x, y in zip(pull, cell))) % modulus for place, cell in (one, other)]
                if colours[0] != colours[1]:
                    self.assertIs(joined(web, one, other), False)


if __name__ == "__main__":
    unittest.main()
