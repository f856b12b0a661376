"""Whether values have the forms of which webs are made."""

from cellwebs.tables import determinant


def is_whole(value):
    """Whether a value is a whole number."""
    return isinstance(value, int) and not isinstance(value, bool)


def is_move(value, directions):
    """Whether a value is a move of a web of so many directions."""
    return isinstance(value, tuple) and len(value) == directions and all([is_whole(number) for number in value])


def is_place(value, places):
    """Whether a value is one of so many places."""
    return is_whole(value) and 0 <= value < places


def is_knot(value, directions, places):
    """Whether a value is a knot of a web of so many directions and places."""
    if not isinstance(value, tuple) or len(value) != 2:
        return False
    place, cell = value
    return is_place(place, places) and is_move(cell, directions)


def is_tie(value, directions, places):
    """Whether a value is a tie of a web of so many directions and places."""
    if not isinstance(value, tuple) or len(value) != 3:
        return False
    a, b, move = value
    if not (is_place(a, places) and is_place(b, places) and is_move(move, directions)):
        return False
    return a != b or move != (0,) * directions


def tells_web(directions, places, ties):
    """Whether three values tell a web."""
    if not is_whole(directions) or not 1 <= directions <= 3:
        return False
    if not is_whole(places) or places < 1:
        return False
    return isinstance(ties, list) and all([is_tie(tie, directions, places) for tie in ties])


def are_names(value, directions, places):
    """Whether a value is a list of a name and a move for each place, the names being all places once each."""
    if not isinstance(value, list) or len(value) != places:
        return False
    if not all([is_knot(row, directions, places) for row in value]):
        return False
    return len({name for name, _ in value}) == places


def are_turns(value, directions):
    """Whether a value is a list of as many moves as directions, with the determinant 1 or -1."""
    if not isinstance(value, list) or len(value) != directions:
        return False
    return all([is_move(row, directions) for row in value]) and determinant(value) in (1, -1)


def are_sizes(value, directions):
    """Whether a value is a list of as many whole numbers of at least 1 as directions."""
    if not isinstance(value, list) or len(value) != directions:
        return False
    return all([is_whole(number) and number >= 1 for number in value])
