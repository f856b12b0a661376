"""[40] to [43]: webs told with other names, other directions and greater cells, knot by knot."""

import unittest
from itertools import product
from random import Random

from cellwebs.errors import InvalidRows
from cellwebs.makings import grouped, renamed, turned
from cellwebs.webs import Web
from known import LONG, names_by_chance, sizes_within, turns_by_chance
from likes import inverse, times
from misfits import no_names, no_sizes, no_turns, refuse, repr_of
from steps import ends, plus, samples, some_ties

FAR = 10 ** 11


def cells(directions, size):
    return product(range(-size, size + 1), repeat=directions)


class Told(unittest.TestCase):
    def assert_told(self, raw, made, places, back, forth):
        """See that the made web has so many places, and that each of its knots, which is the one that `back` gives,
        has the neighbours of that one, told by `forth`, and no others."""
        directions, _, ties = raw
        self.assertIs(type(made), Web)
        self.assertEqual((made.directions, made.places), (directions, places))
        for place in range(places):
            for cell in list(cells(directions, 1 if directions > 1 else 4)) + [(FAR,) * directions]:
                knot = (place, cell)
                self.assertEqual(forth(back(knot)), knot)
                near = sorted(forth(end) for end in ends(ties, back(knot)))
                self.assertEqual(made.neighbours(knot), near)
                for end in near:
                    self.assertIs(made.tied(knot, end), True)
                for end in (knot, (place, plus(cell, (1,) * directions)), (0, (0,) * directions)):
                    self.assertIs(made.tied(end, knot), end in near)


class Renamed(Told):
    def assert_renamed(self, raw, rows):
        web = Web(*raw)
        before, told = repr_of(web), repr_of(rows)
        made = renamed(web, rows)
        self.assertEqual((repr_of(web), repr_of(rows)), (before, told))
        old = {name: place for place, (name, _) in enumerate(rows)}

        def forth(knot):
            name, move = rows[knot[0]]
            return (name, plus(knot[1], move))

        def back(knot):
            return (old[knot[0]], plus(knot[1], rows[old[knot[0]]][1], -1))
        self.assert_told(raw, made, raw[1], back, forth)
        again = [(old[name], tuple(-x for x in rows[old[name]][1])) for name in range(raw[1])]
        self.assertEqual(renamed(made, again), web)

    def test_by_hand(self):
        web = Web(2, 3, [(0, 1, (0, 0)), (1, 2, (1, 5)), (2, 2, (0, 1))])
        rows = [(2, (0, 0)), (0, (10, -1)), (1, (3, 3))]
        self.assertEqual(renamed(web, rows).ties, [(0, 1, (-6, 9)), (0, 2, (-10, 1)), (1, 1, (0, 1))])
        self.assertEqual(renamed(Web(1, 2, [(0, 1, (0,))]), [(0, (0,)), (1, (7,))]).ties, [(0, 1, (7,))])
        self.assertEqual(renamed(Web(1, 2, [(0, 1, (0,))]), [(0, (7,)), (1, (0,))]).ties, [(0, 1, (-7,))])
        self.assertEqual(renamed(Web(1, 2, [(0, 1, (3,))]), [(1, (0,)), (0, (0,))]).ties, [(0, 1, (-3,))])

    def test_nothing_new(self):
        web = Web(2, 2, [(0, 1, (3, 4)), (0, 0, (1, 0))])
        made = renamed(web, [(0, (0, 0)), (1, (0, 0))])
        self.assertEqual(made, web)
        self.assertEqual(renamed(web, [(0, (5, -9)), (1, (5, -9))]), web)

    def test_no_ties(self):
        self.assertEqual(renamed(Web(3, 2, []), [(1, (1, 2, 3)), (0, (0, 0, 0))]), Web(3, 2, []))

    def test_by_chance(self):
        chance = Random(41)
        for raw in samples(41, 60):
            with self.subTest(raw=raw):
                self.assert_renamed(raw, names_by_chance(chance, raw[0], raw[1], 3))

    def test_far_origins(self):
        chance = Random(410)
        for directions in (1, 2, 3):
            raw = (directions, 6, some_ties(directions, directions, 6, 12, LONG))
            self.assert_renamed(raw, names_by_chance(chance, directions, 6, LONG))

    def test_greatest_web(self):
        raw = (3, 40, some_ties(41, 3, 40, 120, LONG))
        self.assert_renamed(raw, names_by_chance(Random(4), 3, 40, LONG))

    def test_refused(self):
        web = Web(2, 2, [(0, 1, (0, 0)), (1, 1, (1, 0))])
        for rows in no_names():
            with self.subTest(rows=rows):
                refuse(self, InvalidRows, rows, renamed, web, rows)
                refuse(self, InvalidRows, rows, renamed, Web(2, 2, []), rows=rows)

    def test_refused_for_other_webs(self):
        line, space = Web(1, 1, [(0, 0, (1,))]), Web(3, 3, [])
        for rows in ([], [(0, ())], [(0, (0, 0))], [(1, (0,))], [(0, (0,)), (1, (0,))], [(0, [0])], [(0, 0)], [0]):
            refuse(self, InvalidRows, rows, renamed, line, rows)
        noughts = (0, 0, 0)
        for rows in ([(0, noughts), (1, noughts)], [(0, noughts)] * 3, [(0, noughts), (1, noughts), (3, noughts)],
                     [(0, noughts), (1, noughts), (2, (0, 0))], [(1, noughts), (2, noughts), (1, noughts)],
                     [(0, noughts), (1, noughts), (2, noughts), (3, noughts)], [0, 1, 2], [noughts] * 3):
            refuse(self, InvalidRows, rows, renamed, space, rows)


def turned_back(rows):
    """The rows that turn back what rows with the determinant 1 or -1 turn."""
    return [tuple(int(x) for x in row) for row in inverse(rows)]


class Turned(Told):
    def assert_turned(self, raw, rows):
        web = Web(*raw)
        before, told = repr_of(web), repr_of(rows)
        made = turned(web, rows)
        self.assertEqual((repr_of(web), repr_of(rows)), (before, told))
        again = turned_back(rows)
        self.assert_told(
            raw, made, raw[1], lambda knot: (knot[0], times(knot[1], again)),
            lambda knot: (knot[0], times(knot[1], rows)))
        self.assertEqual(turned(made, again), web)

    def test_by_hand(self):
        web = Web(2, 2, [(0, 1, (1, 0)), (0, 1, (0, 1)), (1, 1, (2, 3))])
        self.assertEqual(turned(web, [(5, 2), (2, 1)]).ties, [(0, 1, (2, 1)), (0, 1, (5, 2)), (1, 1, (16, 7))])
        self.assertEqual(turned(web, [(0, 1), (1, 0)]).ties, [(0, 1, (0, 1)), (0, 1, (1, 0)), (1, 1, (3, 2))])
        self.assertEqual(turned(Web(1, 2, [(0, 1, (4,))]), [(-1,)]).ties, [(0, 1, (-4,))])
        space = Web(3, 1, [(0, 0, (1, 2, 3))])
        self.assertEqual(turned(space, [(1, 7, 0), (0, 1, 0), (0, 100, -1)]).ties, [(0, 0, (1, 309, -3))])
        self.assertEqual(turned(space, [(0, 1, 0), (0, 0, 1), (1, 0, 0)]).ties, [(0, 0, (3, 1, 2))])

    def test_nothing_new(self):
        web = Web(3, 2, [(0, 1, (3, 4, 5)), (0, 0, (1, 0, 0))])
        self.assertEqual(turned(web, [(1, 0, 0), (0, 1, 0), (0, 0, 1)]), web)
        line = Web(1, 1, [(0, 0, (1,)), (0, 0, (3,))])
        self.assertEqual(turned(line, [(1,)]), line)
        self.assertEqual(turned(line, [(-1,)]), line)
        self.assertEqual(turned(Web(2, 3, []), [(1, 1), (0, -1)]), Web(2, 3, []))

    def test_by_chance(self):
        chance = Random(42)
        for raw in samples(42, 60):
            with self.subTest(raw=raw):
                self.assert_turned(raw, turns_by_chance(chance, raw[0], 3))

    def test_long_numbers(self):
        # Not only such as have noughts in them: Fibonacci's numbers, and products of two shears.
        one, other = 1, 1
        while other < LONG // 10:
            one, other = other, one + other
        for rows in ([(other, one), (one, other - one)], [(one, other), (other - one, one)],
                     [(LONG, 1), (1 - LONG, -1)], [(1, LONG), (0, 1)], [(1, 0), (-LONG, -1)]):
            self.assertIn(rows[0][0] * rows[1][1] - rows[0][1] * rows[1][0], (1, -1))
            self.assert_turned((2, 3, some_ties(one, 2, 3, 6, LONG)), rows)
        for rows in ([(1, LONG, -LONG), (0, -1, LONG), (0, 0, 1)], [(other, one, 5), (one, other - one, 7), (0, 0, 1)],
                     [(0, 0, -1), (LONG, 1, 3), (LONG - 1, 1, 3)]):
            self.assert_turned((3, 3, some_ties(one, 3, 3, 6, LONG)), rows)

    def test_greatest_web(self):
        for seed in range(3):
            raw = (seed + 1, 40, some_ties(seed, seed + 1, 40, 120, LONG))
            self.assert_turned(raw, turns_by_chance(Random(seed), seed + 1, LONG))

    def test_refused(self):
        web = Web(2, 2, [(0, 1, (0, 0)), (1, 1, (1, 0))])
        for rows in no_turns():
            with self.subTest(rows=rows):
                refuse(self, InvalidRows, rows, turned, web, rows)
                refuse(self, InvalidRows, rows, turned, Web(2, 2, []), rows=rows)

    def test_refused_determinants(self):
        for rows in ([(0,)], [(2,)], [(-2,)], [(LONG,)], [], [()], [(1, 0)], [(1,), (1,)], [(True,)], [1], [[1]]):
            refuse(self, InvalidRows, rows, turned, Web(1, 1, [(0, 0, (1,))]), rows)
        for rows in ([(1, 0, 0), (0, 1, 0), (0, 0, 0)], [(1, 0, 0), (0, 1, 0), (0, 0, 2)],
                     [(0, 1, 0), (1, 0, 0), (0, 0, 2)], [(1, 2, 3), (4, 5, 6), (7, 8, 9)],
                     [(0, 1, 1), (1, 0, 1), (1, 1, 0)], [(1, 0, 0), (0, 1, 0), (1, 1, 0)],
                     [(1, 0, 0), (0, 1, 0)], [(1, 0), (0, 1)], [(1, 0, 0), (0, 1, 0), (0, 0, True)]):
            refuse(self, InvalidRows, rows, turned, Web(3, 1, [(0, 0, (1, 0, 0))]), rows)


class Grouped(Told):
    def assert_grouped(self, raw, rows):
        directions, places, _ = raw
        web = Web(*raw)
        before, told = repr_of(web), repr_of(rows)
        made = grouped(web, rows)
        self.assertEqual((repr_of(web), repr_of(rows)), (before, told))
        inner = sorted(product(*[range(size) for size in rows]))

        def forth(knot):
            place, cell = knot
            within = tuple(x % size for x, size in zip(cell, rows))
            return (place + places * inner.index(within), tuple(x // size for x, size in zip(cell, rows)))

        def back(knot):
            shift = inner[knot[0] // places]
            return (knot[0] % places, tuple(x * size + s for x, size, s in zip(knot[1], rows, shift)))
        self.assert_told(raw, made, places * len(inner), back, forth)
        self.assertEqual(len(made.ties), len(web.ties) * len(inner))

    def test_by_hand(self):
        line, streets = Web(1, 1, [(0, 0, (1,))]), Web(2, 1, [(0, 0, (1, 0)), (0, 0, (0, 1))])
        self.assertEqual(grouped(line, [3]).ties, [(0, 1, (0,)), (0, 2, (-1,)), (1, 2, (0,))])
        self.assertEqual(grouped(line, [1]), line)
        self.assertEqual(
            grouped(streets, [1, 2]).ties, [(0, 0, (1, 0)), (0, 1, (0, -1)), (0, 1, (0, 0)), (1, 1, (1, 0))])
        self.assertEqual(
            grouped(streets, [2, 1]).ties, [(0, 0, (0, 1)), (0, 1, (-1, 0)), (0, 1, (0, 0)), (1, 1, (0, 1))])
        self.assertEqual(grouped(Web(1, 2, [(0, 1, (5,))]), [3]).ties, [(0, 5, (1,)), (1, 2, (-2,)), (3, 4, (-2,))])
        self.assertEqual(grouped(Web(1, 1, [(0, 0, (6,))]), [3]).ties, [(0, 0, (2,)), (1, 1, (2,)), (2, 2, (2,))])

    def test_the_order_of_cells(self):
        # One tie from (0, 0) to (0, 2), and so on: the last number counts quickest.
        made = grouped(Web(2, 1, [(0, 0, (1, 1))]), [2, 3])
        self.assertEqual(
            made.ties,
            [(0, 4, (0, 0)), (0, 5, (-1, -1)), (1, 3, (-1, 0)), (1, 5, (0, 0)), (2, 3, (0, 1)), (2, 4, (-1, 0))])

    def test_no_ties(self):
        self.assertEqual(grouped(Web(3, 2, []), [2, 1, 3]), Web(3, 12, []))

    def test_by_chance(self):
        chance = Random(43)
        for raw in samples(43, 60):
            with self.subTest(raw=raw):
                self.assert_grouped(raw, [chance.randint(1, 3) for _ in range(raw[0])])

    def test_all_small_sizes(self):
        for directions in (1, 2, 3):
            for rows in sizes_within(directions, 6):
                self.assert_grouped((directions, 2, some_ties(43, directions, 2, 4, 5)), rows)

    def test_behind_one_another(self):
        raw = (2, 1, some_ties(44, 2, 1, 3, 4))
        for one, other in (([2, 1], [1, 3]), ([2, 2], [2, 1]), ([3, 1], [2, 2])):
            first = grouped(Web(*raw), one)
            self.assert_grouped((2, first.places, first.ties), other)

    def test_greatest_web(self):
        self.assert_grouped((3, 5, some_ties(45, 3, 5, 15, LONG)), [2, 2, 2])
        self.assert_grouped((2, 4, some_ties(45, 2, 4, 12, LONG)), [5, 2])
        self.assert_grouped((1, 1, some_ties(45, 1, 1, 3, LONG)), [40])
        self.assert_grouped((3, 40, some_ties(46, 3, 40, 120, LONG)), [1, 1, 1])

    def test_refused(self):
        web = Web(2, 2, [(0, 1, (0, 0)), (1, 1, (1, 0))])
        for rows in no_sizes():
            with self.subTest(rows=rows):
                refuse(self, InvalidRows, rows, grouped, web, rows)
                refuse(self, InvalidRows, rows, grouped, Web(2, 2, []), rows=rows)

    def test_refused_for_other_webs(self):
        for rows in ([], [0], [-1], [1, 1], [True], (2,), 2, ["2"], [(2,)], [[2]], [None], {0: 2}):
            refuse(self, InvalidRows, rows, grouped, Web(1, 1, [(0, 0, (1,))]), rows)
        for rows in ([2, 2], [2, 2, 0], [0, 2, 2], [1, -1, 1], [1, 1, 1, 1], [1, True, 1], (1, 1, 1), [(1, 1, 1)]):
            refuse(self, InvalidRows, rows, grouped, Web(3, 1, []), rows)


if __name__ == "__main__":
    unittest.main()
