"""Values of every kind, and how to see that they are refused."""

from copy import deepcopy

from cellwebs.errors import InvalidKnot, InvalidWeb
from cellwebs.webs import Web


def values():
    """Values of every kind; none of them is a knot of two directions or a whole number of at least 0, but 0 to 9."""
    return [
        None, True, False, 0, 1, 9, -1, -10 ** 40, "", "0", "a web\n", [], [0], [(0, 0)], [0, (0, 0)], (), (0,),
        (0, 0), (0, 0, 0), ("a", "b"), ((),), {}, {0: (0, 0)}, {"place": 0}, Web(1, 1, []), Web(2, 1, [(0, 0, (0, 1))]),
        InvalidWeb(3), InvalidKnot(),
    ]


def no_webs():
    """Values of every kind that are no webs, each of them no knot and no number either."""
    return [value for value in values() if not isinstance(value, Web)] + [(2, 1, [(0, 0, (0, 1))]), [Web(1, 1, [])]]


def no_knots():
    """Values of every kind that are no knots of a web of two directions and two places."""
    return values() + [
        (0, (0,)), (0, (0, 0, 0)), (0, ()), (2, (0, 0)), (-1, (0, 0)), (10 ** 40, (0, 0)), (True, (0, 0)),
        (False, (0, 0)), ("0", (0, 0)), (None, (0, 0)), ((0,), (0, 0)), (0, [0, 0]), [0, (0, 0)], (0, (0, True)),
        (0, (False, 0)), (0, (0, None)), (0, ("0", 0)), (0, (0, (0,))), (0, ([], 0)), (0, 0, 0), (0, (0, 0), (0, 0)),
        (0, (0, 0), None), ((0, 0), 0), (0, {0: 0, 1: 0}), (0, None), (0, "00"), (0, 0), {0: 0, 1: (0, 0)},
        (0, Web(2, 2, [])), (Web(2, 2, []), (0, 0)), [[0], [0, 0]], "(0, (0, 0))",
    ]


def no_places():
    """Values of every kind that are no places of a web of two places."""
    return [value for value in values() if type(value) is not int or value not in (0, 1)] + [2, 10 ** 40, -2, "1"]


def no_counts():
    """Values of every kind that are no whole numbers of at least 0."""
    return [value for value in values() if type(value) is not int or value < 0] + [-2, "8", [8], (8,)]


def refuse(test, error, value, call, *arguments, **named):
    """See that a call raises this very class with this very value, and changes no argument."""
    before = repr_of(arguments), repr_of(named)
    with test.assertRaises(error) as caught:
        call(*arguments, **named)
    test.assertIs(type(caught.exception), error)
    test.assertIs(caught.exception.value, value)
    test.assertEqual((repr_of(arguments), repr_of(named)), before)


def repr_of(value):
    """A text that is equal for equal values only, webs told by what they hold."""
    if isinstance(value, Web):
        return f"Web({value.directions}, {value.places}, {value.ties})"
    if isinstance(value, ValueError):
        return f"{type(value)}({repr_of(value.value)})"
    if isinstance(value, (list, tuple)):
        return f"{type(value)}[{', '.join(repr_of(item) for item in value)}]"
    if isinstance(value, dict):
        return f"dict[{', '.join(repr_of(item) for item in value.items())}]"
    return repr(deepcopy(value))
