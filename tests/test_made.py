"""[44] to [46]: webs put together, tied and cut, products, halved webs and webs of their lines."""

import unittest
from itertools import product as pairs
from random import Random

from cellwebs.errors import InvalidTie, InvalidWeb
from cellwebs.makings import beside, cut, halved, lines, product, tied_too
from cellwebs.webs import Web
from known import COMBS, LONG, ROAD, SPACE, STREETS, TRIANGLES
from misfits import no_ties, refuse, repr_of
from steps import ends, plus, samples, some_ties

FAR = 10 ** 11


def cells(directions, size=1):
    return list(pairs(range(-size, size + 1), repeat=directions)) + [(FAR,) * directions]


def back_of(tie):
    return (tie[1], tie[0], tuple(-x for x in tie[2]))


class Beside(unittest.TestCase):
    def assert_beside(self, one, other):
        made = beside(Web(*one), Web(*other))
        self.assertEqual((made.directions, made.places), (one[0], one[1] + other[1]))
        for cell in cells(one[0]):
            for place in range(one[1]):
                self.assertEqual(made.neighbours((place, cell)), sorted(ends(one[2], (place, cell))))
            for place in range(other[1]):
                near = sorted((one[1] + b, at) for b, at in ends(other[2], (place, cell)))
                self.assertEqual(made.neighbours((one[1] + place, cell)), near)

    def test_by_hand(self):
        line, pair = Web(1, 1, [(0, 0, (1,))]), Web(1, 2, [(0, 1, (0,)), (1, 1, (4,))])
        self.assertEqual(beside(line, line).ties, [(0, 0, (1,)), (1, 1, (1,))])
        self.assertEqual(beside(line, pair).ties, [(0, 0, (1,)), (1, 2, (0,)), (2, 2, (4,))])
        self.assertEqual(beside(pair, line).ties, [(0, 1, (0,)), (1, 1, (4,)), (2, 2, (1,))])
        self.assertEqual(beside(pair, line).places, 3)

    def test_no_ties(self):
        for one, other in (((2, 3, []), (2, 1, [])), (STREETS, (2, 4, [])), ((2, 4, []), STREETS)):
            self.assert_beside(one, other)
        self.assertEqual(beside(Web(1, 2, []), Web(1, 3, [])), Web(1, 5, []))

    def test_by_chance(self):
        given = list(samples(44, 60))
        for one, other in zip(given, given[3:]):
            with self.subTest(one=one, other=other):
                self.assert_beside(one, other)

    def test_greatest_web(self):
        self.assert_beside((3, 15, some_ties(1, 3, 15, 50, LONG)), (3, 25, some_ties(2, 3, 25, 70, LONG)))

    def test_given_webs_stay(self):
        one, other = Web(*STREETS), Web(*COMBS)
        made = beside(one, other)
        made.ties.append("more")
        self.assertEqual((one, other), (Web(*STREETS), Web(*COMBS)))
        self.assertEqual(len(made.ties), 5)

    def test_refused(self):
        webs = [Web(*ROAD), Web(*STREETS), Web(*SPACE)]
        for one, other in pairs(webs, webs):
            if one.directions != other.directions:
                refuse(self, InvalidWeb, other, beside, one, other)
                refuse(self, InvalidWeb, other, beside, other=other, one=one)


class OneTie(unittest.TestCase):
    """[44]: one tie more, one tie less."""

    def assert_more(self, raw, tie):
        directions, places, ties = raw
        web = Web(*raw)
        before = repr_of(web)
        made = tied_too(web, tie)
        self.assertEqual(repr_of(web), before)
        self.assertEqual((made.directions, made.places), (directions, places))
        for place in range(places):
            for cell in cells(directions):
                self.assertEqual(made.neighbours((place, cell)), sorted(ends(ties + [tie], (place, cell))))
        self.assertEqual(tied_too(web, back_of(tie)), made)
        self.assertEqual(tied_too(made, tie), made)
        self.assertEqual(tied_too(made, back_of(tie)), made)

    def test_tied_too_by_hand(self):
        web = Web(2, 2, [(0, 1, (0, 0))])
        self.assertEqual(tied_too(web, (0, 1, (0, 1))).ties, [(0, 1, (0, 0)), (0, 1, (0, 1))])
        self.assertEqual(tied_too(web, (1, 0, (0, 1))).ties, [(0, 1, (0, -1)), (0, 1, (0, 0))])
        self.assertEqual(tied_too(web, (1, 1, (-2, 1))).ties, [(0, 1, (0, 0)), (1, 1, (2, -1))])
        self.assertEqual(tied_too(web, (0, 1, (0, 0))), web)
        self.assertEqual(tied_too(web, (1, 0, (0, 0))), web)
        self.assertEqual(tied_too(Web(1, 1, []), (0, 0, (-1,))), Web(*ROAD))

    def test_tied_too_by_chance(self):
        for number, raw in enumerate(samples(144, 60)):
            with self.subTest(raw=raw):
                self.assert_more(raw, some_ties(number, raw[0], raw[1], 1, 2)[0])

    def test_cut_by_hand(self):
        web = Web(2, 2, [(0, 1, (0, 0)), (0, 1, (3, -4)), (1, 1, (0, 2))])
        self.assertEqual(cut(web, (0, 1, (0, 0))).ties, [(0, 1, (3, -4)), (1, 1, (0, 2))])
        self.assertEqual(cut(web, (1, 0, (0, 0))).ties, [(0, 1, (3, -4)), (1, 1, (0, 2))])
        self.assertEqual(cut(web, (1, 0, (-3, 4))).ties, [(0, 1, (0, 0)), (1, 1, (0, 2))])
        for tie in ((1, 1, (0, 2)), (1, 1, (0, -2))):
            self.assertEqual(cut(web, tie), Web(2, 2, [(0, 1, (0, 0)), (0, 1, (3, -4))]))
        self.assertEqual(web.ties, [(0, 1, (0, 0)), (0, 1, (3, -4)), (1, 1, (0, 2))])
        self.assertEqual(cut(Web(*ROAD), (0, 0, (-1,))), Web(1, 1, []))

    def test_cut_by_chance(self):
        for raw in samples(244, 60):
            web = Web(*raw)
            for tie in web.ties:
                rest = [other for other in raw[2] if other not in (tie, back_of(tie))]
                for told in (tie, back_of(tie)):
                    made = cut(web, told)
                    self.assertEqual(made, Web(raw[0], raw[1], rest))
                    self.assertEqual(len(made.ties), len(web.ties) - 1)
                    for place in range(raw[1]):
                        knot = (place, (1,) * raw[0])
                        self.assertEqual(made.neighbours(knot), sorted(ends(rest, knot)))
                    self.assertEqual(tied_too(made, told), web)

    def test_greatest_web(self):
        raw = (3, 40, some_ties(9, 3, 40, 119, LONG))
        self.assert_more(raw, (39, 0, (LONG, -LONG, 0)))
        made = tied_too(Web(*raw), (39, 0, (LONG, -LONG, 0)))
        self.assertEqual(cut(made, (0, 39, (-LONG, LONG, 0))), Web(*raw))

    def test_refused_as_no_tie(self):
        web = Web(2, 2, [(0, 1, (0, 0)), (1, 1, (1, 0))])
        for tie in no_ties():
            for function in (tied_too, cut):
                with self.subTest(tie=tie, function=function.__name__):
                    refuse(self, InvalidTie, tie, function, web, tie)
                    refuse(self, InvalidTie, tie, function, tie=tie, web=Web(2, 2, []))

    def test_refused_as_no_tie_of_this_web(self):
        for web, tie in ((Web(*ROAD), (0, 0, (0,))), (Web(*ROAD), (0, 1, (0,))), (Web(*ROAD), (0, 0, (1, 0))),
                         (Web(*SPACE), (0, 0, (1, 0))), (Web(*SPACE), (0, 0, (0, 0, 0))),
                         (Web(*SPACE), (1, 0, (0, 0, 0))), (Web(*STREETS), (0, 0, (1,)))):
            for function in (tied_too, cut):
                refuse(self, InvalidTie, tie, function, web, tie)

    def test_cut_refuses_what_is_not_there(self):
        web = Web(2, 2, [(0, 1, (0, 0)), (0, 1, (3, -4)), (1, 1, (0, 2))])
        for tie in ((0, 1, (-3, 4)), (1, 0, (3, -4)), (0, 1, (0, 1)), (0, 0, (0, 2)), (1, 1, (2, 0)), (1, 1, (0, 1)),
                    (0, 0, (3, -4)), (1, 1, (0, 4))):
            refuse(self, InvalidTie, tie, cut, web, tie)
        refuse(self, InvalidTie, (0, 0, (1,)), cut, Web(1, 1, []), (0, 0, (1,)))


class Product(unittest.TestCase):
    def assert_product(self, one, other):
        before = repr_of((Web(*one), Web(*other)))
        given = Web(*one), Web(*other)
        made, many = product(*given), other[1]
        self.assertEqual(repr_of(given), before)
        self.assertEqual((made.directions, made.places), (one[0] + other[0], one[1] * many))
        at, beside_at = (FAR,) + (2,) * (one[0] - 1), (-1,) * other[0]
        for a, b in pairs(range(one[1]), range(many)):
            near = [(c * many + b, cell + beside_at) for c, cell in ends(one[2], (a, at))]
            near += [(a * many + c, at + cell) for c, cell in ends(other[2], (b, beside_at))]
            self.assertEqual(made.neighbours((a * many + b, at + beside_at)), sorted(near))

    def test_by_hand(self):
        line, streets, pair = Web(*ROAD), Web(*STREETS), Web(1, 2, [(0, 1, (5,))])
        self.assertEqual(product(line, line), streets)
        self.assertEqual(product(line, streets), Web(*SPACE))
        self.assertEqual(product(streets, line), Web(*SPACE))
        self.assertEqual(
            product(pair, line).ties, [(0, 0, (0, 1)), (0, 1, (5, 0)), (1, 1, (0, 1))])
        self.assertEqual(
            product(line, pair).ties, [(0, 0, (1, 0)), (0, 1, (0, 5)), (1, 1, (1, 0))])
        self.assertEqual(
            product(pair, Web(1, 3, [(0, 2, (7,))])).ties,
            [(0, 2, (0, 7)), (0, 3, (5, 0)), (1, 4, (5, 0)), (2, 5, (5, 0)), (3, 5, (0, 7))])

    def test_no_ties(self):
        self.assertEqual(product(Web(1, 2, []), Web(2, 3, [])), Web(3, 6, []))
        self.assertEqual(product(Web(*ROAD), Web(1, 2, [])), Web(2, 2, [(0, 0, (1, 0)), (1, 1, (1, 0))]))
        self.assertEqual(product(Web(1, 2, []), Web(*ROAD)), Web(2, 2, [(0, 0, (0, 1)), (1, 1, (0, 1))]))

    def test_by_chance(self):
        given = list(samples(45, 90))
        ones, twos = [raw for raw in given if raw[0] == 1], [raw for raw in given if raw[0] == 2]
        for one, two, more in zip(ones, twos, ones[1:]):
            with self.subTest(one=one, two=two, more=more):
                self.assert_product(one, more)
                self.assert_product(one, two)
                self.assert_product(two, one)

    def test_greatest_web(self):
        self.assert_product((1, 8, some_ties(5, 1, 8, 10, LONG)), (2, 5, some_ties(6, 2, 5, 8, LONG)))
        self.assert_product((2, 20, some_ties(7, 2, 20, 40, LONG)), (1, 2, some_ties(8, 1, 2, 2, LONG)))
        self.assert_product((1, 1, some_ties(5, 1, 1, 2, LONG)), (1, 40, some_ties(6, 1, 40, 40, LONG)))

    def test_refused(self):
        webs = [Web(*ROAD), Web(*STREETS), Web(*SPACE), Web(2, 3, [])]
        for one, other in pairs(webs, webs):
            if one.directions + other.directions > 3:
                refuse(self, InvalidWeb, other, product, one, other)
                refuse(self, InvalidWeb, other, product, other=other, one=one)
            else:
                self.assertEqual(product(one, other).directions, one.directions + other.directions)


class Halved(unittest.TestCase):
    def assert_halved(self, raw):
        directions, places, _ = raw
        web = Web(*raw)
        before, ties = repr_of(web), web.ties
        made = halved(web)
        self.assertEqual(repr_of(web), before)
        self.assertEqual((made.directions, made.places), (directions, places + len(ties)))
        self.assertEqual(len(made.ties), 2 * len(ties))
        for cell in cells(directions):
            near = {(place, cell): [] for place in range(places)}
            for number, (a, b, move) in enumerate(ties):
                within = (places + number, cell)
                self.assertEqual(made.neighbours(within), sorted([(a, cell), (b, plus(cell, move))]))
                near[a, cell].append(within)
                near[b, cell].append((places + number, plus(cell, move, -1)))
            for knot, found in near.items():
                self.assertEqual(made.neighbours(knot), sorted(found))

    def test_by_hand(self):
        self.assertEqual(halved(Web(*ROAD)), Web(1, 2, [(0, 1, (0,)), (0, 1, (-1,))]))
        self.assertEqual(
            halved(Web(*STREETS)).ties, [(0, 1, (0, -1)), (0, 1, (0, 0)), (0, 2, (-1, 0)), (0, 2, (0, 0))])
        self.assertEqual(
            halved(Web(2, 2, [(1, 0, (5, 0)), (1, 1, (0, -3))])).ties,
            [(0, 2, (0, 0)), (1, 2, (5, 0)), (1, 3, (0, -3)), (1, 3, (0, 0))])

    def test_no_ties(self):
        for directions in (1, 2, 3):
            self.assertEqual(halved(Web(directions, 7, [])), Web(directions, 7, []))

    def test_by_chance(self):
        for raw in samples(46, 90):
            with self.subTest(raw=raw):
                self.assert_halved(raw)

    def test_greatest_web(self):
        self.assert_halved((3, 10, some_ties(46, 3, 10, 30, LONG)))
        self.assert_halved((2, 40, some_ties(47, 2, 40, 120, LONG)))


class Lines(unittest.TestCase):
    def assert_lines(self, raw):
        directions, places, _ = raw
        web = Web(*raw)
        before, ties = repr_of(web), web.ties
        made = lines(web)
        self.assertEqual(repr_of(web), before)
        self.assertEqual((made.directions, made.places), (directions, len(ties)))

        def tie_between(one, other):
            """The knot of the new web for the tie of two knots."""
            for number, (a, b, move) in enumerate(ties):
                for (start, cell), end in ((one, other), (other, one)):
                    if (a, (b, plus(cell, move))) == (start, end):
                        return (number, cell)
        for number, (a, b, move) in enumerate(ties):
            for cell in ((0,) * directions, (-3,) * directions, (FAR,) * directions):
                first, last = (a, cell), (b, plus(cell, move))
                near = {tie_between(first, end) for end in ends(ties, first)}
                near |= {tie_between(last, end) for end in ends(ties, last)}
                self.assertEqual(made.neighbours((number, cell)), sorted(near - {(number, cell)}))

    def test_by_hand(self):
        self.assertEqual(lines(Web(*ROAD)), Web(*ROAD))
        self.assertEqual(lines(Web(1, 1, [(0, 0, (5,))])), Web(1, 1, [(0, 0, (5,))]))
        self.assertEqual(lines(Web(1, 2, [(0, 1, (5,))])), Web(1, 1, []))
        self.assertEqual(lines(Web(2, 3, [(0, 1, (5, 0)), (1, 2, (0, 1))])), Web(2, 2, [(0, 1, (5, 0))]))
        self.assertEqual(
            lines(Web(*STREETS)).ties,
            [(0, 0, (0, 1)), (0, 1, (-1, 0)), (0, 1, (-1, 1)), (0, 1, (0, 0)), (0, 1, (0, 1)), (1, 1, (1, 0))])
        self.assertEqual(
            lines(Web(*COMBS)).ties,
            [(0, 1, (0, -1)), (0, 1, (0, 0)), (0, 2, (-1, 0)), (0, 2, (0, 0)), (1, 2, (-1, 1)), (1, 2, (0, 0))])

    def test_two_knots_in_common(self):
        # Ties over one and over two knots of a road.
        self.assertEqual(
            lines(Web(1, 1, [(0, 0, (1,)), (0, 0, (2,))])).ties,
            [(0, 0, (1,)), (0, 1, (-2,)), (0, 1, (-1,)), (0, 1, (0,)), (0, 1, (1,)), (1, 1, (2,))])
        # Two and three ties between the same two places: each two of them have knots of both places in common.
        self.assertEqual(lines(Web(1, 2, [(0, 1, (0,)), (0, 1, (1,))])).ties, [(0, 1, (-1,)), (0, 1, (0,))])
        self.assertEqual(lines(Web(1, 2, [(0, 1, (0,)), (0, 1, (1,)), (0, 1, (2,))])).ties, [
            (0, 1, (-1,)), (0, 1, (0,)), (0, 2, (-2,)), (0, 2, (0,)), (1, 2, (-1,)), (1, 2, (0,))])

    def test_a_tie_of_a_place_to_itself(self):
        self.assertEqual(lines(Web(2, 2, [(1, 1, (2, -3))])), Web(2, 1, [(0, 0, (2, -3))]))
        self.assertEqual(
            lines(Web(1, 2, [(0, 1, (0,)), (1, 1, (4,))])).ties, [(0, 1, (-4,)), (0, 1, (0,)), (1, 1, (4,))])

    def test_by_chance(self):
        for raw in samples(146, 90, size=1):
            if raw[2]:
                with self.subTest(raw=raw):
                    self.assert_lines(raw)

    def test_triangles(self):
        for raw in (TRIANGLES, SPACE, COMBS, STREETS):
            self.assert_lines(raw)

    def test_greatest_web(self):
        ring = [(at, (at + 1) % 40, (at, LONG, -at)) for at in range(40)]
        self.assert_lines((3, 40, ring))
        self.assertEqual(len(lines(Web(3, 40, ring)).ties), 40)
        chance = Random(46)
        moves = [tuple(chance.randint(-LONG, LONG) for _ in range(2)) for _ in range(120)]
        self.assert_lines((2, 40, [(at % 40, (7 * at + at // 40 + 1) % 40, move) for at, move in enumerate(moves)]))

    def test_refused(self):
        for directions in (1, 2, 3):
            for places in (1, 5):
                web = Web(directions, places, [])
                refuse(self, InvalidWeb, web, lines, web)
                refuse(self, InvalidWeb, web, lines, web=web)


if __name__ == "__main__":
    unittest.main()
