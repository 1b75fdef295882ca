"""Refusals of places, lines and lights that are handed in."""

from hueshade.errors import BadLight, BadPiece, BadPlace
from hueshade.numbers import FAR


def check_place(place):
    """Refuses a place with a number beyond FAR."""
    if max([abs(number) for number in place]) > FAR:
        raise BadPlace()


def check_light(light, most):
    """Refuses a light with a colour below 0 or above most."""
    if min(light) < 0 or max(light) > most:
        raise BadLight()


def check_line(one, other):
    """Refuses places that are none, then the same place twice."""
    check_place(one)
    check_place(other)
    if one == other:
        raise BadPiece()
