"""What deeds do.

A state is a tuple (floor, looks, coming): what stands, the looks as hueshade.fitting has them, and
the next number of each sort and of looks. No state is ever changed: each deed makes a new one and
tells a tuple (state, told), so that what is refused leaves the old one as it was.
"""

from hueshade.checks import check_light, check_place
from hueshade.errors import BadBlock, BadChoice, BadDeed, BadMenu, BadPiece, Full, Looked, NoLook
from hueshade.fitting import counts_of
from hueshade.floors import bare_floor, thing_of, with_moved, with_thing, without_thing
from hueshade.forms import FORMS
from hueshade.lights import BRIGHT, check_sift
from hueshade.menus import MOST_SETTINGS, how_many
from hueshade.stands import MOST_LOOKS, MOST_THINGS


def first_state():
    """The state of a new house."""
    return (bare_floor(), {}, {"lamp": 1, "post": 1, "pane": 1, "look": 1})


def check_room(rows, most):
    """Refuses one more where so many stand."""
    if len(rows) >= most:
        raise Full()


def put(state, sort, thing):
    """One more thing of this sort, by the next number, which is told; Full."""
    floor, looks, coming = state
    check_room(floor[sort], MOST_THINGS)
    number = coming[sort]
    return ((with_thing(floor, sort, number, thing), looks, {**coming, sort: number + 1}), number)


def do_lamp(state, across, up, red, green, blue):
    """A known lamp, on."""
    check_place((across, up))
    check_light((red, green, blue), BRIGHT)
    return put(state, "lamp", (((across, up, red, green, blue),), True))


def do_unsure(state, choices):
    """An open lamp, on."""
    if len(choices) < 2 or len(choices) > 6 or len(set(choices)) < len(choices):
        raise BadMenu()
    for choice in choices:
        check_place(choice[:2])
        check_light(choice[2:], BRIGHT)
    lamps = state[0]["lamp"]
    if how_many(counts_of(lamps)) * len(choices) > MOST_SETTINGS:
        raise Full()
    return put(state, "lamp", (choices, True))


def do_post(state, left, low, right, high):
    """A post."""
    check_place((left, low, right, high))
    if left > right or low > high:
        raise BadBlock()
    return put(state, "post", (left, low, right, high))


def do_pane(state, across, up, other_across, other_up, sift):
    """A pane."""
    piece = ((across, up), (other_across, other_up))
    check_place(piece[0])
    check_place(piece[1])
    if piece[0] == piece[1]:
        raise BadPiece()
    check_sift(sift)
    return put(state, "pane", (piece, sift))


def do_move(state, sort, number, right, up):
    """A thing so much further."""
    floor, looks, coming = state
    return ((with_moved(floor, sort, number, right, up), looks, coming), None)


def do_switch(state, number):
    """A lamp's on is off, its off on."""
    floor, looks, coming = state
    choices, on = thing_of(floor, "lamp", number)
    return ((with_thing(floor, "lamp", number, (choices, not on)), looks, coming), None)


def do_drop(state, sort, number):
    """A thing is gone."""
    floor, looks, coming = state
    thing_of(floor, sort, number)
    if sort == "lamp":
        for look, (place, light, stood) in looks.items():
            if number in stood["lamp"]:
                raise Looked(look)
    return ((without_thing(floor, sort, number), looks, coming), None)


def do_look(state, across, up, red, green, blue):
    """A look at the floor as it stands."""
    check_place((across, up))
    check_light((red, green, blue), 12 * BRIGHT)
    floor, looks, coming = state
    check_room(looks, MOST_LOOKS)
    number = coming["look"]
    written = {**looks, number: ((across, up), (red, green, blue), floor)}
    return ((floor, written, {**coming, "look": number + 1}), number)


def do_strike(state, number):
    """A look is gone."""
    floor, looks, coming = state
    if number not in looks:
        raise NoLook(number)
    return ((floor, {other: look for other, look in looks.items() if other != number}, coming), None)


def with_choice(floor, number, at):
    """The floor on which of this lamp, where it stands, the choice at that place alone is left."""
    if number not in floor["lamp"]:
        return floor
    choices, on = floor["lamp"][number]
    return with_thing(floor, "lamp", number, ((choices[at],), on))


def do_settle(state, number, at):
    """Of a lamp's choices one is left, also on the floors of earlier looks."""
    floor, looks, coming = state
    choices, on = thing_of(floor, "lamp", number)
    if at < 0 or at >= len(choices):
        raise BadChoice()
    settled = {
        look: (place, light, with_choice(stood, number, at))
        for look, (place, light, stood) in looks.items()
    }
    return ((with_choice(floor, number, at), settled, coming), None)


def do_many(state, deeds):
    """All of the deeds or none; told is the list of what each tells."""
    if any([deed[:1] == ("many",) for deed in deeds]):
        raise BadDeed()
    so_far = state
    told = []
    for deed in deeds:
        so_far, answer = applied(so_far, deed)
        told.append(answer)
    return (so_far, told)


DOERS = {
    "lamp": do_lamp,
    "unsure": do_unsure,
    "post": do_post,
    "pane": do_pane,
    "move": do_move,
    "switch": do_switch,
    "drop": do_drop,
    "look": do_look,
    "strike": do_strike,
    "settle": do_settle,
    "many": do_many,
}


def applied(state, deed):
    """The state behind a deed, and what it tells; BadDeed, then what the deed is refused by."""
    if len(deed) == 0 or deed[0] not in FORMS or len(deed) != 1 + len(FORMS[deed[0]]):
        raise BadDeed()
    doer = DOERS[deed[0]]
    things = deed[1:]
    return doer(state, *things)
