"""Floors: the things that stand, by their sorts and numbers.

A floor is a dict that has for each of SORTS a dict of its things by their numbers, rising. A lamp is
a tuple (choices, on), a post is its block, a pane a tuple (piece, sift). No floor is ever changed: a
new one is made, so that looks, twins and what can be undone may share the old one.
"""

from hueshade.checks import check_place
from hueshade.errors import BadSort, NoThing
from hueshade.stands import SORTS


def bare_floor():
    """A floor on which nothing stands."""
    return {sort: {} for sort in SORTS}


def with_thing(floor, sort, number, thing):
    """The floor on which this thing stands by this number."""
    return {**floor, sort: {**floor[sort], number: thing}}


def without_thing(floor, sort, number):
    """The floor on which no such thing stands."""
    return {**floor, sort: {other: thing for other, thing in floor[sort].items() if other != number}}


def thing_of(floor, sort, number):
    """The thing that stands by this number; BadSort, NoThing."""
    if sort not in SORTS:
        raise BadSort()
    if number not in floor[sort]:
        raise NoThing(sort, number)
    return floor[sort][number]


def shifted_place(place, right, up):
    """The place so much further."""
    return (place[0] + right, place[1] + up)


def shifted(sort, thing, right, up):
    """The thing so much further, a lamp with all its choices; BadPlace."""
    if sort == "lamp":
        choices, on = thing
        told = (tuple([(*shifted_place(choice, right, up), *choice[2:]) for choice in choices]), on)
    elif sort == "post":
        told = (*shifted_place(thing[:2], right, up), *shifted_place(thing[2:], right, up))
    else:
        piece, sift = thing
        told = (tuple([shifted_place(place, right, up) for place in piece]), sift)
    for place in places_of(sort, told):
        check_place(place)
    return told


def places_of(sort, thing):
    """The places by which the thing stands: of all choices, of two corners, of both ends."""
    if sort == "lamp":
        return [choice[:2] for choice in thing[0]]
    if sort == "post":
        return [thing[:2], thing[2:]]
    return list(thing[0])


def with_moved(floor, sort, number, right, up):
    """The floor with this thing moved; BadSort, NoThing, BadPlace."""
    thing = thing_of(floor, sort, number)
    return with_thing(floor, sort, number, shifted(sort, thing, right, up))
