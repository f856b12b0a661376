"""Webs and their knots."""

from cellwebs.errors import InvalidKnot, InvalidWeb
from cellwebs.forms import is_knot, tells_web
from cellwebs.links import links_of, one_way
from cellwebs.moves import added


class Web:
    """A web without end, told by the places of one cell and the ties from them."""

    def __init__(self, directions, places, ties):
        if not tells_web(directions, places, ties):
            raise InvalidWeb((directions, places, ties))
        self._directions = directions
        self._places = places
        self._ties = sorted({one_way(tie) for tie in ties})
        self._links = links_of(self._ties)

    @property
    def directions(self):
        """In how many directions the web repeats."""
        return self._directions

    @property
    def places(self):
        """How many places a cell has."""
        return self._places

    @property
    def ties(self):
        """The list of all different ties, in ascending order, each told in one way."""
        return list(self._ties)

    def neighbours(self, knot):
        """The list of the knots to which a knot is tied, in ascending order."""
        if not is_knot(knot, self._directions, self._places):
            raise InvalidKnot(knot)
        place, cell = knot
        return [(b, added(cell, move)) for b, move in self._links.get(place, [])]

    def tied(self, one, other):
        """Whether two knots are tied."""
        if not is_knot(one, self._directions, self._places):
            raise InvalidKnot(one)
        if not is_knot(other, self._directions, self._places):
            raise InvalidKnot(other)
        return other in self.neighbours(one)

    def __eq__(self, other):
        return (
            isinstance(other, Web)
            and self._directions == other._directions
            and self._places == other._places
            and self._ties == other._ties
        )
