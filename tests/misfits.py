"""Values of every kind, and how to see that they are refused."""

from copy import deepcopy

from cellwebs.errors import InvalidKnot, InvalidWeb
from cellwebs.webs import Web
from known import UNSTEADY


def values():
    """Values of every kind; none of them is a knot of two directions or a whole number of at least 0, but 0 to 9."""
    return [
        None, True, False, 0, 1, 9, -1, -10 ** 40, "", "0", "a web\n", [], [0], [(0, 0)], [0, (0, 0)], (), (0,),
        (0, 0), (0, 0, 0), ("a", "b"), ((),), {}, {0: (0, 0)}, {"place": 0}, Web(1, 1, []), Web(2, 1, [(0, 0, (0, 1))]),
        InvalidWeb(3), InvalidKnot(),
    ]


def no_webs():
    """Values of every kind that are no webs, each of them no knot and no number either."""
    return [value for value in values() if not isinstance(value, Web)] + [(2, 1, [(0, 0, (0, 1))]), [Web(1, 1, [])]]


def no_knots():
    """Values of every kind that are no knots of a web of two directions and two places."""
    return values() + [
        (0, (0,)), (0, (0, 0, 0)), (0, ()), (2, (0, 0)), (-1, (0, 0)), (10 ** 40, (0, 0)), (True, (0, 0)),
        (False, (0, 0)), ("0", (0, 0)), (None, (0, 0)), ((0,), (0, 0)), (0, [0, 0]), [0, (0, 0)], (0, (0, True)),
        (0, (False, 0)), (0, (0, None)), (0, ("0", 0)), (0, (0, (0,))), (0, ([], 0)), (0, 0, 0), (0, (0, 0), (0, 0)),
        (0, (0, 0), None), ((0, 0), 0), (0, {0: 0, 1: 0}), (0, None), (0, "00"), (0, 0), {0: 0, 1: (0, 0)},
        (0, Web(2, 2, [])), (Web(2, 2, []), (0, 0)), [[0], [0, 0]], "(0, (0, 0))",
    ]


def no_places():
    """Values of every kind that are no places of a web of two places."""
    return [value for value in values() if type(value) is not int or value not in (0, 1)] + [2, 10 ** 40, -2, "1"]


def no_ties():
    """Values of every kind that are no ties of a web of two directions and two places."""
    return values() + [
        (0, 1), (0, 1, (0, 0), 0), (0, 1, (0, 0), None), ((0, 0), 0, 1), [0, 1, (0, 0)], (0, 1, [0, 0]),
        (2, 0, (0, 0)), (0, 2, (0, 0)), (-1, 0, (0, 0)), (0, -1, (0, 0)), (10 ** 40, 0, (0, 0)),
        (0, True, (0, 0)), (True, 0, (0, 0)), (False, 1, (0, 0)), (1, False, (0, 0)), ("0", 1, (0, 0)),
        (0, "1", (0, 0)), (None, 1, (0, 0)), (0, None, (0, 0)), ((0,), 1, (0, 0)), (0, [1], (0, 0)),
        (0, 1, ()), (0, 1, (0,)), (0, 1, (0, 0, 0)), (0, 1, (0, True)), (0, 1, (False, 0)), (0, 1, (0, None)),
        (0, 1, ("0", 0)), (0, 1, (0, (0,))), (0, 1, ([], 0)), (0, 1, None), (0, 1, 0), (0, 1, "00"),
        (0, 1, {0: 0, 1: 0}), (0, 0, (0, 0)), (1, 1, (0, 0)), {0: 0, 1: 1, 2: (0, 0)}, "01(", ((0, 1, (0, 0)),),
        (Web(2, 2, []), 1, (0, 0)), (0, 1, Web(2, 2, [])),
    ]


def no_names():
    """Values of every kind that are no names and origins of the places of a web of two directions and two places."""
    good = (0, (0, 0))
    wrong = [(1, move) for move in (
        (0,), (0, 0, 0), (), [0, 0], (0, True), (False, 0), (0, None), ("0", 0), ((0, 0),), None, 0, "00", {0: 0, 1: 0})]
    wrong += [(name, (0, 0)) for name in (0, 2, -1, 10 ** 40, True, None, "1", (1,), [1], Web(2, 2, []))]
    wrong += [1, None, "1", (), (1,), (1, 0, 0), ((0, 0), 1), (1, (0, 0), 0), [1, (0, 0)], {1: (0, 0)}, Web(2, 2, [])]
    return values() + [[good, row] for row in wrong] + [[row, good] for row in wrong] + [
        [good], [(1, (0, 0))], [good, (1, (0, 0)), (2, (0, 0))], [good, (1, (0, 0)), good], [good, good, (1, (0, 0))],
        (good, (1, (0, 0))), {0: good, 1: (1, (0, 0))}, [[good, (1, (0, 0))]], [good, good], [(1, (3, 4)), (1, (5, 6))],
        [(False, (0, 0)), (True, (0, 0))], [(0, (0, 0)), (True, (0, 0))], ((0, (0, 0)), (1, (0, 0))), [[0, 1], [1, 0]],
    ]


def no_turns():
    """Values of every kind that are no other directions of a web of two directions."""
    wrong = [(0,), (0, 1, 0), (), [0, 1], (0, True), (False, 1), (0, None), (0, "1"), ((0, 1),), None, 1, "01",
             {0: 0, 1: 1}, (0, (1,)), Web(2, 2, [])]
    return values() + [[(1, 0), row] for row in wrong] + [[row, (1, 0)] for row in wrong] + [
        [(1, 0)], [(1, 0), (0, 1), (0, 0)], [(1, 0), (0, 1), (1, 1)], ((1, 0), (0, 1)), {0: (1, 0), 1: (0, 1)},
        [[1, 0], [0, 1]], [1, 0, 0, 1], [[(1, 0), (0, 1)]], [(1, 0, 0), (0, 1, 0), (0, 0, 1)], [(1,)],
        [(0, 0), (0, 0)], [(1, 1), (1, 1)], [(1, 0), (0, 0)], [(2, 4), (1, 2)], [(1, 0), (0, 2)], [(0, 1), (2, 0)],
        [(1, 1), (1, -1)], [(1, 1), (-1, 1)], [(3, 1), (1, 1)], [(10 ** 12, 1), (1, 0 - 10 ** 12)],
    ]


def no_sizes():
    """Values of every kind that are no sizes of greater cells of a web of two directions."""
    wrong = [0, -1, -2, -10 ** 40, True, False, None, "1", (1,), [1], {}, Web(1, 1, [])]
    return values() + [[1, number] for number in wrong] + [[number, 1] for number in wrong] + [
        [1], [2], [1, 1, 1], [2, 2, 0], (1, 1), (2, 3), {0: 1, 1: 1}, "11", [[1, 1]], [(1, 1)], 2, [0, 0], [-1, -1],
    ]


def no_steady_webs():
    """Values of every kind that are no steady webs."""
    return no_webs() + [Web(*raw) for raw, _ in UNSTEADY]


def no_counts():
    """Values of every kind that are no whole numbers of at least 0."""
    return [value for value in values() if type(value) is not int or value < 0] + [-2, "8", [8], (8,)]


def refuse(test, error, value, call, *arguments, **named):
    """See that a call raises this very class with this very value, and changes no argument."""
    before = repr_of(arguments), repr_of(named)
    with test.assertRaises(error) as caught:
        call(*arguments, **named)
    test.assertIs(type(caught.exception), error)
    test.assertIs(caught.exception.value, value)
    test.assertEqual((repr_of(arguments), repr_of(named)), before)


def repr_of(value):
    """A text that is equal for equal values only, webs told by what they hold."""
    if isinstance(value, Web):
        return f"Web({value.directions}, {value.places}, {value.ties})"
    if isinstance(value, ValueError):
        return f"{type(value)}({repr_of(value.value)})"
    if isinstance(value, (list, tuple)):
        return f"{type(value)}[{', '.join(repr_of(item) for item in value)}]"
    if isinstance(value, dict):
        return f"dict[{', '.join(repr_of(item) for item in value.items())}]"
    return repr(deepcopy(value))
