"""Reckoning with moves."""


def added(move, other):
    """The sum of two moves."""
    return tuple([number + more for number, more in zip(move, other)])


def less(move, other):
    """The one move less the other one."""
    return tuple([number - more for number, more in zip(move, other)])


def times(move, many):
    """A whole multiple of a move."""
    return tuple([number * many for number in move])


def turned_about(move):
    """A move, each of its numbers times -1."""
    return tuple([-number for number in move])


def lead(move):
    """At which place the first number that is not 0 stands, None if there is none."""
    for at, number in enumerate(move):
        if number != 0:
            return at
    return None
