"""Refusing arguments that do not fit."""

from cellwebs.errors import InvalidKnot, InvalidNumber, InvalidRows, InvalidTie, InvalidWeb
from cellwebs.forms import are_names, are_sizes, are_turns, is_knot, is_place, is_tie, is_whole
from cellwebs.webs import Web


def check_web(value):
    """Raise InvalidWeb unless a value is a web."""
    if not isinstance(value, Web):
        raise InvalidWeb(value)


def check_knot(web, value):
    """Raise InvalidKnot unless a value is a knot of the web."""
    if not is_knot(value, web.directions, web.places):
        raise InvalidKnot(value)


def check_place(web, value):
    """Raise InvalidNumber unless a value is a place of the web."""
    if not is_place(value, web.places):
        raise InvalidNumber(value)


def check_many(value):
    """Raise InvalidNumber unless a value is a whole number of at least 0."""
    if not is_whole(value) or value < 0:
        raise InvalidNumber(value)


def check_tie(web, value):
    """Raise InvalidTie unless a value is a tie for the places and directions of the web."""
    if not is_tie(value, web.directions, web.places):
        raise InvalidTie(value)


def check_names(web, value):
    """Raise InvalidRows unless a value tells other names and origins of the places of the web."""
    if not are_names(value, web.directions, web.places):
        raise InvalidRows(value)


def check_turns(web, value):
    """Raise InvalidRows unless a value tells other directions of the web."""
    if not are_turns(value, web.directions):
        raise InvalidRows(value)


def check_sizes(web, value):
    """Raise InvalidRows unless a value tells greater cells of the web."""
    if not are_sizes(value, web.directions):
        raise InvalidRows(value)
