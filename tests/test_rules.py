"""[1], [2], [5] for all functions, what they refuse, and the examples of the document."""

import importlib
import unittest

from cellwebs.errors import InvalidKnot, InvalidNumber, InvalidRows, InvalidTie, InvalidWeb
from cellwebs.likeness import handed, key, kinds, least, map_of, same, steps, symmetries
from cellwebs.makings import beside, cut, grouped, halved, lines, product, renamed, tied_too, turned
from cellwebs.parts import distance, even, joined, lattice, parted, pulled, shells, strands, whole
from cellwebs.placing import placing, steady
from cellwebs.webs import Web
from known import COMBS, ROAD, STREETS, UNSTEADY
from misfits import (
    no_counts, no_knots, no_names, no_places, no_sizes, no_steady_webs, no_ties, no_turns, no_webs, refuse, repr_of)

TIES = [(0, 1, (0, 0)), (0, 0, (2, 1)), (1, 1, (0, 3))]
KNOT, OTHER = (0, (0, 0)), (1, (2, 1))


def web():
    return Web(2, 2, TIES)


def combs():
    return Web(*COMBS)


def streets():
    return Web(*STREETS)


WEB, LIKE = (web, InvalidWeb, no_webs), (combs, InvalidWeb, no_steady_webs)
ONE, TWO = (lambda: KNOT, InvalidKnot, no_knots), (lambda: OTHER, InvalidKnot, no_knots)
PLACE = (lambda: 1, InvalidNumber, no_places)

# Each function, its arguments by name in their order (how to make one that fits, the error for those that do not,
# and how to make them), and what it returns for them, or None where it may return any of several things.
CALLS = {
    "cellwebs.parts": [
        (joined, {"web": WEB, "one": ONE, "other": TWO}, True),
        (lattice, {"web": WEB, "place": PLACE}, [(2, 1), (0, 3)]),
        (parted, {"web": WEB}, [[0, 1]]),
        (strands, {"web": WEB, "place": PLACE}, 6),
        (whole, {"web": WEB}, False),
        (pulled, {"web": WEB, "place": PLACE}, None),
        (distance, {"web": WEB, "one": ONE, "other": TWO}, 2),
        (shells, {"web": WEB, "knot": ONE, "many": (lambda: 2, InvalidNumber, no_counts)}, [1, 3, 6]),
        (even, {"web": WEB}, True),
    ],
    "cellwebs.makings": [
        (renamed, {"web": WEB, "rows": (lambda: [(1, (0, 0)), (0, (1, 1))], InvalidRows, no_names)},
         Web(2, 2, [(0, 1, (-1, -1)), (1, 1, (2, 1)), (0, 0, (0, 3))])),
        (turned, {"web": WEB, "rows": (lambda: [(1, 1), (0, -1)], InvalidRows, no_turns)},
         Web(2, 2, [(0, 1, (0, 0)), (0, 0, (2, 1)), (1, 1, (0, -3))])),
        (grouped, {"web": WEB, "rows": (lambda: [1, 1], InvalidRows, no_sizes)}, Web(2, 2, TIES)),
        (beside, {"one": WEB, "other": (streets, InvalidWeb, no_webs)},
         Web(2, 3, TIES + [(2, 2, (1, 0)), (2, 2, (0, 1))])),
        (tied_too, {"web": WEB, "tie": (lambda: (1, 0, (4, 4)), InvalidTie, no_ties)},
         Web(2, 2, TIES + [(1, 0, (4, 4))])),
        (cut, {"web": WEB, "tie": (lambda: (1, 0, (0, 0)), InvalidTie, no_ties)}, Web(2, 2, TIES[1:])),
        (product, {"one": WEB, "other": (lambda: Web(*ROAD), InvalidWeb, no_webs)},
         Web(3, 2, [(a, b, move + (0,)) for a, b, move in TIES] + [(0, 0, (0, 0, 1)), (1, 1, (0, 0, 1))])),
        (halved, {"web": WEB},
         Web(2, 5, [(0, 2, (0, 0)), (2, 0, (2, 1)), (0, 3, (0, 0)), (3, 1, (0, 0)), (1, 4, (0, 0)), (4, 1, (0, 3))])),
        (lines, {"web": WEB},
         Web(2, 3, [(0, 0, (2, 1)), (0, 1, (0, 0)), (0, 1, (2, 1)), (2, 2, (0, 3)), (1, 2, (0, 0)), (2, 1, (0, 3))])),
    ],
    "cellwebs.placing": [
        (placing, {"web": (combs, InvalidWeb, no_webs)}, [((0, 1), (0, 1)), ((-1, 3), (-1, 3))]),
        (steady, {"web": WEB}, False),
    ],
    "cellwebs.likeness": [
        (same, {"one": LIKE, "other": (streets, InvalidWeb, no_steady_webs)}, False),
        (map_of, {"one": LIKE, "other": LIKE}, None),
        (key, {"web": LIKE}, None),
        (steps, {"web": LIKE}, [((1, 1), (0, 1)), ((0, 1), (1, 1))]),
        (least, {"web": LIKE}, None),
        (symmetries, {"web": LIKE, "place": PLACE}, 6),
        (kinds, {"web": LIKE}, [[0, 1]]),
        (handed, {"web": LIKE}, False),
    ],
}
ALL_CALLS = [call for calls in CALLS.values() for call in calls]


def fitting(arguments):
    return {name: make() for name, (make, _, _) in arguments.items()}


def spoil(value):
    """Change every list within a value."""
    if isinstance(value, (list, tuple)):
        for inner in value:
            spoil(inner)
    if isinstance(value, list):
        value.append("more")
        value[0] = "other"


def lists_in(value):
    """All lists within a value."""
    if not isinstance(value, (list, tuple)):
        return []
    own = [value] if isinstance(value, list) else []
    return own + [found for inner in value for found in lists_in(inner)]


class Examples(unittest.TestCase):
    def test_wires(self):
        wires, far = Web(2, 2, [(0, 0, (2, 0)), (0, 0, (1, 3)), (1, 1, (0, -2))]), (10 ** 20, 3 * 10 ** 20)
        self.assertEqual(
            [wires.ties, parted(wires), lattice(wires, 0), strands(wires, 0), strands(wires, 1),
             joined(wires, (0, (0, 0)), (0, far)), wires.neighbours((1, (5, 5)))],
            [[(0, 0, (1, 3)), (0, 0, (2, 0)), (1, 1, (0, 2))], [[0], [1]], [(1, 3), (0, 6)], 6, None, True,
             [(1, (5, 3)), (1, (5, 7))]])

    def test_streets(self):
        given = Web(2, 1, [(0, 0, (1, 0)), (0, 0, (0, 1))])
        self.assertEqual(
            [shells(given, (0, (7, 7)), 3), distance(given, (0, (0, 0)), (0, (3, -2))), even(given)],
            [[1, 4, 8, 12], 5, True])

    def test_makings(self):
        line, given = Web(1, 1, [(0, 0, (1,))]), Web(2, 1, [(0, 0, (1, 0)), (0, 0, (0, 1))])
        self.assertEqual(
            [product(line, line) == given, grouped(line, [2]) == halved(line), halved(line).ties,
             renamed(halved(line), [(1, (0,)), (0, (0,))]).ties, turned(given, [(1, 1), (0, 1)]).ties,
             cut(given, (0, 0, (-1, 0))).ties, len(lines(given).ties), beside(line, line).ties,
             product(line, halved(line)).ties],
            [True, True, [(0, 1, (-1,)), (0, 1, (0,))], [(0, 1, (0,)), (0, 1, (1,))],
             [(0, 0, (0, 1)), (0, 0, (1, 1))], [(0, 0, (0, 1))], 6, [(0, 0, (1,)), (1, 1, (1,))],
             [(0, 0, (1, 0)), (0, 1, (0, -1)), (0, 1, (0, 0)), (1, 1, (1, 0))]])

    def test_likeness(self):
        given = Web(2, 2, [(0, 1, (0, 0)), (0, 1, (1, 0)), (0, 1, (0, 1))])
        other = Web(2, 1, [(0, 0, (1, 0)), (0, 0, (0, 1))])
        self.assertEqual(
            [placing(given), steady(given), same(other, turned(grouped(other, [2, 1]), [(1, 1), (0, 1)])),
             steps(grouped(other, [1, 3])), symmetries(given, 0), symmetries(other, 0), kinds(given), handed(given),
             map_of(other, given)],
            [[((0, 1), (0, 1)), ((-1, 3), (-1, 3))], True, True, [((1, 1), (0, 1)), ((0, 1), (1, 3))], 6, 8,
             [[0, 1]], False, None])


class Calls(unittest.TestCase):
    def test_by_position_and_by_name(self):
        for function, arguments, result in ALL_CALLS:
            by_position = function(*fitting(arguments).values())
            by_name = function(**dict(reversed(list(fitting(arguments).items()))))
            with self.subTest(function=function.__name__):
                self.assertEqual(by_position, by_name)
                if result is not None:
                    self.assertEqual(by_position, result)
                    self.assertIs(type(by_position), type(result))

    def test_the_same_question_again(self):
        given = {function: fitting(arguments) for function, arguments, _ in ALL_CALLS}
        first = [repr_of(function(**given[function])) for function, _, _ in ALL_CALLS]
        for function, _, _ in reversed(ALL_CALLS):
            function(**given[function])
        self.assertEqual([repr_of(function(**given[function])) for function, _, _ in ALL_CALLS], first)
        for function, arguments in given.items():
            for name, value in arguments.items():
                if isinstance(value, Web):
                    turned_about = [(b, a, tuple(-x for x in move)) for a, b, move in reversed(value.ties)]
                    arguments[name] = Web(value.directions, value.places, turned_about)
        self.assertEqual([repr_of(function(**given[function])) for function, _, _ in ALL_CALLS], first)

    def test_arguments_are_not_changed(self):
        for function, arguments, _ in ALL_CALLS:
            given = fitting(arguments)
            function(**given)
            self.assertEqual(repr_of(given), repr_of(fitting(arguments)))

    def test_lists_are_new(self):
        for function, arguments, _ in ALL_CALLS:
            given = fitting(arguments)
            first = function(**given)
            told = repr_of(first)
            for found in (lists_in(first), lists_in((first, function(**given))), lists_in((first, list(given.values())))):
                self.assertEqual(len({id(inner) for inner in found}), len(found))
            spoil(first)
            self.assertEqual(repr_of(function(**given)), told)
            self.assertEqual(repr_of(given), repr_of(fitting(arguments)))

    def test_changing_an_argument_later(self):
        rows = [(1, (0, 0)), (0, (1, 1))]
        made = renamed(web(), rows)
        told = repr_of(made)
        rows[0] = None
        rows.clear()
        self.assertEqual(repr_of(made), told)

    def test_lists_within_lists_are_objects_of_their_own(self):
        lists = parted(Web(1, 3, []))
        self.assertEqual(len({id(inner) for inner in lists}), 3)
        lists[0].append(5)
        self.assertEqual(lists, [[0, 5], [1], [2]])
        lists = kinds(Web(1, 3, [(0, 1, (0,)), (1, 2, (0,)), (2, 0, (1,)), (0, 0, (1,)), (0, 0, (2,)), (1, 1, (1,))]))
        lists[0].append(5)
        self.assertEqual(lists, [[0, 5], [1], [2]])

    def test_where_they_are_defined(self):
        for name, calls in CALLS.items():
            module = importlib.import_module(name)
            for function, _, _ in calls:
                self.assertEqual(function.__module__, name)
                self.assertIs(getattr(module, function.__name__), function)
        self.assertEqual(Web.__module__, "cellwebs.webs")
        self.assertIs(importlib.import_module("cellwebs.webs").Web, Web)
        for name in ("__init__", "__eq__", "directions", "places", "ties", "neighbours", "tied"):
            self.assertIn(name, vars(Web))


class Refused(unittest.TestCase):
    """Each argument in its turn, also with others behind it that do not fit either."""

    def test_each_argument(self):
        for function, arguments, _ in ALL_CALLS:
            for at, (name, (_, error, misfits)) in enumerate(arguments.items()):
                for value in misfits():
                    given = fitting(arguments)
                    given[name] = value
                    with self.subTest(function=function.__name__, name=name, value=value):
                        refuse(self, error, value, function, **given)
                        for wrong in (None, [], "x", ((), ())):
                            worse = list(given.values())[:at + 1] + [wrong] * (len(given) - at - 1)
                            refuse(self, error, value, function, *worse)

    def test_unsteady_webs(self):
        unsteady = [Web(*raw) for raw, _ in UNSTEADY]
        self.assertGreater(len(unsteady), 10)
        for value in unsteady:
            for function in (key, steps, least, kinds, handed):
                refuse(self, InvalidWeb, value, function, value)
            for place in (0, 1, 99, -1, None, True):
                refuse(self, InvalidWeb, value, symmetries, value, place)
            for function in (same, map_of):
                for other in (combs(), Web(1, 1, []), None, 3):
                    refuse(self, InvalidWeb, value, function, value, other)
                for one in (combs(), Web(*ROAD)):
                    refuse(self, InvalidWeb, value, function, one, value)

    def test_two_webs_that_do_not_fit(self):
        for function in (same, map_of, beside, product):
            for one, other in ((None, None), (3, Web(1, 1, [])), ([], Web(*STREETS)), ((), "x")):
                refuse(self, InvalidWeb, one, function, one, other)
        line = Web(1, 1, [])
        refuse(self, InvalidWeb, line, same, line, None)
        refuse(self, InvalidWeb, None, beside, line, None)
        refuse(self, InvalidWeb, None, product, Web(3, 1, []), None)

    def test_by_name(self):
        refuse(self, InvalidWeb, 3, joined, other=None, one=None, web=3)
        refuse(self, InvalidKnot, 3, joined, other=None, one=3, web=web())
        refuse(self, InvalidNumber, -1, shells, many=-1, knot=KNOT, web=web())
        refuse(self, InvalidWeb, 3, renamed, rows=3, web=3)
        refuse(self, InvalidWeb, "a", cut, tie=None, web="a")
        refuse(self, InvalidWeb, 4, same, other=3, one=4)

    def test_a_knot_of_another_web(self):
        line = Web(1, 1, [(0, 0, (1,))])
        for function in (joined, distance):
            for knot in ((0, (0, 0)), (1, (0,)), (0, ())):
                refuse(self, InvalidKnot, knot, function, line, knot, (0, (0,)))
                refuse(self, InvalidKnot, knot, function, line, (0, (0,)), knot)

    def test_a_place_of_another_web(self):
        for place in (2, 3, -1, True, 10 ** 40):
            refuse(self, InvalidNumber, place, symmetries, combs(), place)
        refuse(self, InvalidNumber, 1, symmetries, streets(), 1)
        refuse(self, InvalidNumber, False, symmetries, streets(), False)
        self.assertEqual(symmetries(grouped(streets(), [1, 3]), 2), 8)

    def test_also_where_the_answer_would_be_plain(self):
        empty = Web(2, 2, [])
        knot = (0, (0, True))
        refuse(self, InvalidKnot, knot, joined, empty, knot, knot)
        refuse(self, InvalidKnot, knot, distance, empty, KNOT, knot)
        refuse(self, InvalidKnot, knot, shells, empty, knot, 0)
        refuse(self, InvalidNumber, True, strands, empty, True)
        refuse(self, InvalidNumber, False, lattice, empty, False)
        refuse(self, InvalidNumber, False, shells, empty, KNOT, False)


if __name__ == "__main__":
    unittest.main()
