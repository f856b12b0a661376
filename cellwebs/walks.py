"""Walks from a knot outwards, over one tie more each time."""


class Walk:
    """The knots that have the distance 0, 1, .. `reach` from a knot, one distance after the other.

    Each knot on the walk has one whole number, which stands for its place
    and for how far its cell is from the one where the walk begins: adding
    numbers and looking them up is several times as quick as doing so with
    tuples. `layer` is the list of the numbers at the present distance.
    """

    def __init__(self, web, place, reach):
        self._places = web.places
        # No way within reach leads further in any direction.
        self._far = reach * max([abs(number) for tie in web.ties for number in tie[2]], default=0)
        self._steps = {}
        for a, b, move in web.ties:
            step = self.number_of(b, move) - a
            self._steps.setdefault(a, []).append(step)
            self._steps.setdefault(b, []).append(-step)
        self._seen = {place: True}
        self.layer = [place]

    def number_of(self, place, way):
        """The number of the knot of a place in the cell so far from the beginning.

        Knots to which a way within reach leads have unlike numbers, as the
        numbers of their ways are digits of a base that has room for them all.
        """
        number = 0
        for part in way:
            number = number * (2 * self._far + 1) + part
        return number * self._places + place

    def is_near(self, way):
        """Whether a cell so far from the beginning is one of those that have numbers of their own."""
        return all([abs(part) <= self._far for part in way])

    def go_on(self):
        """Go on to the knots that are one tie further away."""
        found = []
        for number in self.layer:
            for step in self._steps.get(number % self._places, []):
                if number + step not in self._seen:
                    self._seen[number + step] = True
                    found.append(number + step)
        self.layer = found
