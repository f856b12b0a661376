"""Refusing arguments that do not fit."""

from cellwebs.errors import InvalidKnot, InvalidNumber, InvalidWeb
from cellwebs.forms import is_knot, is_place, is_whole
from cellwebs.webs import Web


def check_web(value):
    """Raise InvalidWeb unless a value is a web."""
    if not isinstance(value, Web):
        raise InvalidWeb(value)


def check_knot(web, value):
    """Raise InvalidKnot unless a value is a knot of the web."""
    if not is_knot(value, web.directions, web.places):
        raise InvalidKnot(value)


def check_place(web, value):
    """Raise InvalidNumber unless a value is a place of the web."""
    if not is_place(value, web.places):
        raise InvalidNumber(value)


def check_many(value):
    """Raise InvalidNumber unless a value is a whole number of at least 0."""
    if not is_whole(value) or value < 0:
        raise InvalidNumber(value)
