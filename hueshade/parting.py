"""Two houses told apart by moving things of both alike.

A way is a row of numbers, one for each thing that may be moved: 0 where it stays, else its shift's
place, from 1 on. The stands of such a thing are it as it stands under each of these numbers.
"""

from hueshade.beams import figures_of, let_by, let_by_all
from hueshade.checks import check_place
from hueshade.errors import BadView
from hueshade.fitting import checked_setting
from hueshade.floors import shifted, thing_of
from hueshade.lights import both_sifts, sifted, summed
from hueshade.menus import all_rows

MOST_MOVES = 200
MOST_SHIFTS = 6
MOST_PLACES = 12


def check_things(floors, things):
    """Refuses, of each thing in its order, by BadSort, NoThing, BadView."""
    names = []
    for sort, number, shifts in things:
        for floor in floors:
            thing_of(floor, sort, number)
        if len(shifts) > MOST_SHIFTS or (sort, number) in names:
            raise BadView()
        names.append((sort, number))


def check_places(places):
    """Refuses no place or too many by BadView, then what is no place."""
    if len(places) < 1 or len(places) > MOST_PLACES:
        raise BadView()
    for place in places:
        check_place(place)


def stands_of(floor, things):
    """For each thing that may be moved a tuple (sort, number, stands); BadPlace."""
    told = []
    for sort, number, shifts in things:
        thing = thing_of(floor, sort, number)
        stands = [thing] + [shifted(sort, thing, right, up) for right, up in shifts]
        told.append((sort, number, stands))
    return told


def ray(choice, still, moving, place):
    """What a lamp of this choice sends to the place: its light, the sift of what stands still, and for
    each post or pane that may be moved its place in a way and its sift under each number there.
    """
    way = (choice[:2], place)
    sifts = [(at, [let_by(sort, thing, way) for thing in stands]) for at, sort, stands in moving]
    return (choice[2:], let_by_all(still, way), sifts)


def rays_of(floor, stands, place):
    """For each lamp that is on its place in a way, None where it may not be moved, and its rays there."""
    moved = {(sort, number): at for at, (sort, number, things) in enumerate(stands)}
    still = [figure for figure in figures_of(floor) if figure[:2] not in moved]
    moving = [(at, sort, things) for at, (sort, number, things) in enumerate(stands) if sort != "lamp"]
    told = []
    for number, lamp in floor["lamp"].items():
        if lamp[1]:
            at = moved.get(("lamp", number))
            lamps = [lamp] if at is None else stands[at][2]
            told.append((at, [ray(choices[0], still, moving, place) for choices, on in lamps]))
    return told


def ray_light(one, way):
    """What comes by a ray when things are moved this way."""
    light, sift, sifts = one
    for at, own in sifts:
        sift = both_sifts(sift, own[way[at]])
    return sifted(light, sift)


def way_light(rays, way):
    """The light at the rays' place when things are moved this way."""
    return summed([ray_light(rows[0 if at is None else way[at]], way) for at, rows in rays])


def how_many_moved(way):
    """How many things are moved this way."""
    return len([number for number in way if number > 0])


def moves_of(things, way):
    """The moves of the things that are moved this way."""
    return tuple([
        (sort, number, *shifts[choice - 1]) for (sort, number, shifts), choice in zip(things, way) if choice > 0
    ])


def parting(one, other, things, places):
    """A parting with the fewest things moved, or None.

    Unknown, of each thing BadSort, NoThing, BadView; TooMany, BadView, BadPlace.
    """
    floors = [one.state[0], other.state[0]]
    for floor in floors:
        checked_setting(floor["lamp"], None)
    check_things(floors, things)
    ways = all_rows([1 + len(shifts) for sort, number, shifts in things], most=MOST_MOVES)
    check_places(places)
    one_stands, other_stands = [stands_of(floor, things) for floor in floors]
    one_rays = [rays_of(floors[0], one_stands, place) for place in places]
    other_rays = [rays_of(floors[1], other_stands, place) for place in places]
    # Sorting keeps ways that move as many things as they stood: as rows of numbers.
    for way in sorted(ways, key=how_many_moved):
        for at, place in enumerate(places):
            if way_light(one_rays[at], way) != way_light(other_rays[at], way):
                return (moves_of(things, way), place)
    return None
