"""Fractions in lowest terms."""

from math import gcd


def lowest(number, of):
    """The fraction of a number by another one, which is not 0, in lowest terms."""
    shared = gcd(number, of)
    if of < 0:
        shared = -shared
    return (number // shared, of // shared)


def fractions_of(move, of):
    """The tuple of the fractions of the numbers of a move by a number."""
    return tuple([lowest(number, of) for number in move])


def shared_by(number, moves):
    """The greatest number that divides a number and all numbers of some moves."""
    for move in moves:
        for more in move:
            number = gcd(number, more)
    return number
