"""Views, plans that tell fitting settings apart, and papers that there is none with fewer looks.

A group is a tuple of places in the list of fitting settings, rising.
"""

from hueshade.beams import choice_lights, picked_light
from hueshade.checks import check_place
from hueshade.errors import BadView, TooMany
from hueshade.fitting import checked_setting, picks_of, setting_lights
from hueshade.floors import with_moved

MOST_VIEWS = 8
MOST_FITS = 24
MOST_VIEW_MOVES = 12


def viewed(house, view):
    """The floor that is looked at by a view, and the place; BadView, its moves' refusals, BadPlace."""
    moves, across, up = view
    if len(moves) > MOST_VIEW_MOVES:
        raise BadView()
    floor = house.state[0]
    for sort, number, right, further_up in moves:
        floor = with_moved(floor, sort, number, right, further_up)
    check_place((across, up))
    return (floor, (across, up))


def seen(house, view, setting):
    """The light by a view under a setting; the view's refusals, Unknown, BadSetting."""
    floor, place = viewed(house, view)
    lamps = floor["lamp"]
    return picked_light(choice_lights(floor, place), picks_of(lamps, checked_setting(lamps, setting)))


def split(group, lights):
    """The groups of a group's settings with the same light, with that light, rising."""
    parts = {}
    for at in group:
        parts.setdefault(lights[at], []).append(at)
    return [(light, tuple(parts[light])) for light in sorted(parts)]


class Planner:
    """Finds plans and papers for fitting settings; rows has for each view the light under each of them."""

    def __init__(self, fits, rows):
        self.fitting = fits
        self.rows = rows
        self.known = {}
        self.hardest = {}
        self.last = {}

    def whole(self):
        """The group of all fitting settings."""
        return tuple(range(len(self.fitting)))

    def best(self, group):
        """The least depth for the group, and the place of a first view for it, None where it is 0."""
        if group not in self.known:
            found = (0, None)
            for at, lights in enumerate(self.rows):
                parts = split(group, lights)
                if len(parts) > 1:
                    deep = 1 + max([self.best(part)[0] for light, part in parts])
                    if found[1] is None or deep < found[0]:
                        found = (deep, at)
            self.known[group] = found
        return self.known[group]

    def plan_for(self, group):
        """A plan of the least depth for the group."""
        deep, at = self.best(group)
        if at is None:
            return ("done", [self.fitting[number] for number in group])
        branches = split(group, self.rows[at])
        return ("look", at, [(light, self.plan_for(part)) for light, part in branches])

    def hardest_parts(self, group):
        """For each view the part of the group that needs most looks, with its light."""
        # A paper asks the same groups over and over, as views may be gone through in any order.
        if group not in self.hardest:
            self.hardest[group] = [
                max(split(group, lights), key=lambda row: self.best(row[1])[0]) for lights in self.rows
            ]
        return self.hardest[group]

    def paper_for(self, group, looks):
        """A paper that no plan of at most so many looks does for the group; its least depth is more."""
        if looks == 0:
            return self.unlike_two(group)
        if looks == 1:
            return ("each", list(self.last_rows(group)))
        return ("each", [(light, self.paper_for(part, looks - 1)) for light, part in self.hardest_parts(group)])

    def last_rows(self, group):
        """The rows of a paper for the group and one look."""
        # Most of a paper are these rows; as they hold no lists, the same ones may stand in many places.
        if group not in self.last:
            self.last[group] = [(light, self.unlike_two(part)) for light, part in self.hardest_parts(group)]
        return self.last[group]

    def unlike_two(self, group):
        """The paper of two settings that some view tells unlike."""
        lights = self.rows[self.best(group)[1]]
        other = [at for at in group if lights[at] != lights[group[0]]][0]
        return ("two", self.fitting[group[0]], self.fitting[other])


def planner_for(house, views):
    """The planner for a house and views; refused as plan is."""
    if len(views) < 1 or len(views) > MOST_VIEWS:
        raise BadView()
    looked_at = [viewed(house, view) for view in views]
    fits = house.fits()
    if len(fits) > MOST_FITS:
        raise TooMany()
    lamps = house.state[0]["lamp"]
    return Planner(fits, [setting_lights(lamps, fits, floor, place) for floor, place in looked_at])


def plan(house, views):
    """A plan of the least depth; BadView, each view's refusals, TooMany."""
    planner = planner_for(house, views)
    return planner.plan_for(planner.whole())


def plan_paper(house, views, *, looks=0):
    """A paper that no plan of at most so many looks does, or None; refused as plan, then BadView."""
    planner = planner_for(house, views)
    if looks < 0:
        raise BadView()
    group = planner.whole()
    if planner.best(group)[0] <= looks:
        return None
    return planner.paper_for(group, looks)


def depth(told):
    """The most looks on a row from a plan's top to a done."""
    if told[0] == "done":
        return 0
    return 1 + max([depth(branch) for light, branch in told[2]])
