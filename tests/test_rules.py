"""[1], [2], [3] for all functions, what they refuse, and the examples of the document."""

import unittest

from cellwebs import parts, webs
from cellwebs.errors import InvalidKnot, InvalidNumber, InvalidWeb
from cellwebs.parts import distance, even, joined, lattice, parted, pulled, shells, strands, whole
from cellwebs.webs import Web
from misfits import no_counts, no_knots, no_places, no_webs, refuse, repr_of

TIES = [(0, 1, (0, 0)), (0, 0, (2, 1)), (1, 1, (0, 3))]
KNOT, OTHER = (0, (0, 0)), (1, (2, 1))

# Each function, its arguments by name in their order, and what it returns for them.
CALLS = [
    (joined, {"one": KNOT, "other": OTHER}, True),
    (lattice, {"place": 1}, [(2, 1), (0, 3)]),
    (parted, {}, [[0, 1]]),
    (strands, {"place": 1}, 6),
    (whole, {}, False),
    (pulled, {"place": 1}, None),
    (distance, {"one": KNOT, "other": OTHER}, 2),
    (shells, {"knot": KNOT, "many": 2}, [1, 3, 6]),
    (even, {}, True),
]


def web():
    return Web(2, 2, TIES)


class Examples(unittest.TestCase):
    def test_wires(self):
        wires, far = Web(2, 2, [(0, 0, (2, 0)), (0, 0, (1, 3)), (1, 1, (0, -2))]), (10 ** 20, 3 * 10 ** 20)
        self.assertEqual(
            [wires.ties, parted(wires), lattice(wires, 0), strands(wires, 0), strands(wires, 1),
             joined(wires, (0, (0, 0)), (0, far)), wires.neighbours((1, (5, 5)))],
            [[(0, 0, (1, 3)), (0, 0, (2, 0)), (1, 1, (0, 2))], [[0], [1]], [(1, 3), (0, 6)], 6, None, True,
             [(1, (5, 3)), (1, (5, 7))]])

    def test_streets(self):
        streets = Web(2, 1, [(0, 0, (1, 0)), (0, 0, (0, 1))])
        self.assertEqual(
            [shells(streets, (0, (7, 7)), 3), distance(streets, (0, (0, 0)), (0, (3, -2))), even(streets)],
            [[1, 4, 8, 12], 5, True])


class Calls(unittest.TestCase):
    def test_by_position_and_by_name(self):
        for function, arguments, result in CALLS:
            by_position = function(web(), *arguments.values())
            by_name = function(web=web(), **dict(reversed(list(arguments.items()))))
            self.assertEqual(by_position, by_name)
            if function is not pulled:
                self.assertEqual(by_position, result)
                self.assertIs(type(by_position), type(result))

    def test_the_same_question_again(self):
        for function, arguments, _ in CALLS:
            given = web()
            first = function(given, *arguments.values())
            self.assertEqual(function(given, *arguments.values()), first)
            told_otherwise = Web(2, 2, [(1, 1, (0, -3)), (0, 0, (-2, -1)), (1, 0, (0, 0)), (0, 1, (0, 0))])
            self.assertEqual(function(told_otherwise, *arguments.values()), first)

    def test_arguments_are_not_changed(self):
        for function, arguments, _ in CALLS:
            given = web()
            before = repr_of(arguments)
            function(given, *arguments.values())
            self.assertEqual((repr_of(arguments), repr_of(given)), (before, repr_of(web())))

    def test_lists_are_new(self):
        for function, arguments, result in CALLS:
            if type(result) is list:
                given = web()
                first = function(given, *arguments.values())
                for inner in first:
                    if type(inner) is list:
                        inner.append("more")
                first.append("more")
                self.assertEqual(function(given, *arguments.values()), result)
                self.assertEqual(given, web())

    def test_lists_within_lists_are_objects_of_their_own(self):
        lists = parted(Web(1, 3, []))
        self.assertEqual(len({id(inner) for inner in lists}), 3)
        lists[0].append(5)
        self.assertEqual(lists, [[0, 5], [1], [2]])

    def test_where_they_are_defined(self):
        for function, _, _ in CALLS:
            self.assertEqual(function.__module__, "cellwebs.parts")
            self.assertIs(getattr(parts, function.__name__), function)
        self.assertEqual(Web.__module__, "cellwebs.webs")
        self.assertIs(webs.Web, Web)
        for name in ("__init__", "__eq__", "directions", "places", "ties", "neighbours", "tied"):
            self.assertIn(name, vars(Web))


class Refused(unittest.TestCase):
    """Each argument in its turn, also with others behind it that do not fit either."""

    def refuse_all(self, function, fitting, at, error, misfits):
        arguments = list(fitting)
        for value in misfits:
            arguments[at] = value
            with self.subTest(function=function.__name__, at=at, value=value):
                refuse(self, error, value, function, *arguments)
                for wrong in (None, [], "x", ((), ())):
                    worse = arguments[:at + 1] + [wrong] * (len(arguments) - at - 1)
                    refuse(self, error, value, function, *worse)

    def test_webs(self):
        for function, arguments, _ in CALLS:
            self.refuse_all(function, [web()] + list(arguments.values()), 0, InvalidWeb, no_webs())

    def test_knots(self):
        for function in (joined, distance):
            self.refuse_all(function, [web(), KNOT, OTHER], 1, InvalidKnot, no_knots())
            self.refuse_all(function, [web(), KNOT, OTHER], 2, InvalidKnot, no_knots())
        self.refuse_all(shells, [web(), KNOT, 2], 1, InvalidKnot, no_knots())

    def test_places(self):
        for function in (lattice, strands, pulled):
            self.refuse_all(function, [web(), 1], 1, InvalidNumber, no_places())

    def test_counts(self):
        self.refuse_all(shells, [web(), KNOT, 2], 2, InvalidNumber, no_counts())

    def test_by_name(self):
        refuse(self, InvalidWeb, 3, joined, other=None, one=None, web=3)
        refuse(self, InvalidKnot, 3, joined, other=None, one=3, web=web())
        refuse(self, InvalidNumber, -1, shells, many=-1, knot=KNOT, web=web())

    def test_a_knot_of_another_web(self):
        line = Web(1, 1, [(0, 0, (1,))])
        for function in (joined, distance):
            for knot in ((0, (0, 0)), (1, (0,)), (0, ())):
                refuse(self, InvalidKnot, knot, function, line, knot, (0, (0,)))
                refuse(self, InvalidKnot, knot, function, line, (0, (0,)), knot)

    def test_also_where_the_answer_would_be_plain(self):
        empty = Web(2, 2, [])
        knot = (0, (0, True))
        refuse(self, InvalidKnot, knot, joined, empty, knot, knot)
        refuse(self, InvalidKnot, knot, distance, empty, KNOT, knot)
        refuse(self, InvalidKnot, knot, shells, empty, knot, 0)
        refuse(self, InvalidNumber, True, strands, empty, True)
        refuse(self, InvalidNumber, False, lattice, empty, False)
        refuse(self, InvalidNumber, False, shells, empty, KNOT, False)


if __name__ == "__main__":
    unittest.main()
