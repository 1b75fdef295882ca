"""A house: what stands on its floor, its looks, and the deeds that were done."""

from hueshade.beams import choice_lights, picked_light, reasons_of
from hueshade.checks import check_line, check_place
from hueshade.deeds import applied, first_state
from hueshade.errors import BadSetting, BadSort, NoLook, NothingLeft
from hueshade.fitting import (
    checked_setting,
    clashing,
    fitting,
    picks_of,
    setting_lights,
    settings_of,
    true_lamps,
)
from hueshade.floors import thing_of
from hueshade.numbers import order
from hueshade.stretches import light_at_share, shaded_lamps, stretches_of
from hueshade.texts import page_text

WHITE = (9, 9, 9)


class House:
    """Lamps, posts and panes on a floor, and looks at it.

    The state is one of hueshade.deeds; past has a tuple (deed, state ahead of it) for each deed that
    stands, ahead one (deed, state behind it) for each that can be done again, the next one last.
    """

    def __init__(self):
        self.state = first_state()
        self.past = []
        self.ahead = []
        self.trying = False

    def do(self, deed):
        """Does a deed and tells what it tells."""
        state, told = applied(self.state, deed)
        self.past.append((deed, self.state))
        self.ahead.clear()
        self.state = state
        return told

    def lamp(self, across, up, *, light=WHITE):
        """A known lamp, on; its number."""
        return self.do(("lamp", across, up, *light))

    def unsure(self, choices):
        """An open lamp, on; its number."""
        return self.do(("unsure", tuple(choices)))

    def post(self, left, low, right=None, high=None):
        """A post, a point where right and high are left out; its number."""
        return self.do(("post", left, low, left if right is None else right, low if high is None else high))

    def pane(self, one, other, *, sift=""):
        """A pane; its number."""
        return self.do(("pane", *one, *other, sift))

    def move(self, sort, number, *, right=0, up=0):
        """A thing stands so much further."""
        return self.do(("move", sort, number, right, up))

    def switch(self, number):
        """A lamp's on is off, its off on."""
        return self.do(("switch", number))

    def drop(self, sort, number):
        """A thing is gone."""
        return self.do(("drop", sort, number))

    def look(self, across, up, light):
        """What is seen at a place of the floor as it stands; the look's number."""
        return self.do(("look", across, up, *light))

    def strike(self, number):
        """A look is gone."""
        return self.do(("strike", number))

    def settle(self, number, at=0):
        """Of a lamp's choices the one at that place alone is left."""
        return self.do(("settle", number, at))

    def many(self, deeds):
        """All of the deeds or none, as one; the list of what each tells."""
        return self.do(("many", tuple(deeds)))

    def trial(self, deeds):
        """What many would tell, or be refused by; nothing is done."""
        self.trying = True
        try:
            return applied(self.state, ("many", tuple(deeds)))[1]
        finally:
            self.trying = False

    def busy(self):
        """Whether a trial is being done."""
        return self.trying

    def undo(self):
        """Undoes the last deed that stands and tells it; NothingLeft."""
        if not self.past:
            raise NothingLeft()
        deed, state = self.past.pop()
        self.ahead.append((deed, self.state))
        self.state = state
        return deed

    def redo(self):
        """Does again what was undone last and tells it; NothingLeft."""
        if not self.ahead:
            raise NothingLeft()
        deed, state = self.ahead.pop()
        self.past.append((deed, self.state))
        self.state = state
        return deed

    def deeds(self):
        """The deeds that stand, the eldest first."""
        return [deed for deed, state in self.past]

    def lamps(self):
        """The lamps: tuples (number, choices, on)."""
        return [(number, choices, on) for number, (choices, on) in self.state[0]["lamp"].items()]

    def posts(self):
        """The posts: tuples (number, block)."""
        return [(number, block) for number, block in self.state[0]["post"].items()]

    def panes(self):
        """The panes: tuples (number, piece, sift)."""
        return [(number, piece, sift) for number, (piece, sift) in self.state[0]["pane"].items()]

    def looks(self):
        """The looks: tuples (number, place, light)."""
        return [(number, place, light) for number, (place, light, floor) in self.state[1].items()]

    def floor_of(self, number):
        """The house that stood when this look was written, with the choices that are left; NoLook."""
        floor, looks, coming = self.state
        if number not in looks:
            raise NoLook(number)
        told = House()
        told.state = (looks[number][2], {}, coming)
        return told

    def coming(self, sort):
        """The next number of a sort, or of looks; BadSort."""
        numbers = self.state[2]
        if sort not in numbers:
            raise BadSort()
        return numbers[sort]

    def settings(self):
        """All settings, in order."""
        return settings_of(self.state[0]["lamp"])

    def fits(self):
        """The settings that fit, in order."""
        return fitting(self.state[0]["lamp"], self.state[1])

    def clash(self):
        """The numbers of some looks that clash, or None where some setting fits."""
        return clashing(self.state[0]["lamp"], self.state[1])

    def left(self, number):
        """The places of the choices that the lamp has in settings that fit; NoThing."""
        thing_of(self.state[0], "lamp", number)
        lamps = self.state[0]["lamp"]
        return sorted(set([picks_of(lamps, setting)[number] for setting in self.fits()]))

    def light(self, across, up, *, setting=None):
        """The light at a place; BadPlace, Unknown, BadSetting."""
        check_place((across, up))
        floor = self.state[0]
        checked = checked_setting(floor["lamp"], setting)
        return picked_light(choice_lights(floor, (across, up)), picks_of(floor["lamp"], checked))

    def reasons(self, across, up, *, setting=None):
        """The reasons of a place; BadPlace, Unknown, BadSetting."""
        check_place((across, up))
        floor = self.state[0]
        checked = checked_setting(floor["lamp"], setting)
        return reasons_of(floor, true_lamps(floor["lamp"], checked), (across, up))

    def lights(self, across, up):
        """The unlike lights at a place under the settings that fit, rising; BadPlace."""
        check_place((across, up))
        floor = self.state[0]
        return sorted(set(setting_lights(floor["lamp"], self.fits(), floor, (across, up))))

    def along(self, one, other, *, setting=None):
        """The stretches of a line; BadPlace, BadPiece, Unknown, BadSetting."""
        check_line(one, other)
        floor = self.state[0]
        checked = checked_setting(floor["lamp"], setting)
        return stretches_of(shaded_lamps(floor, true_lamps(floor["lamp"], checked), (one, other)))

    def share_light(self, one, other, share, *, setting=None):
        """The light at a share of a line; BadPlace, BadPiece, BadSetting, Unknown."""
        check_line(one, other)
        if order(share, (0, 1)) < 0 or order(share, (1, 1)) > 0:
            raise BadSetting()
        floor = self.state[0]
        checked = checked_setting(floor["lamp"], setting)
        return light_at_share(shaded_lamps(floor, true_lamps(floor["lamp"], checked), (one, other)), share)

    def twin(self):
        """A house that has all of this one and goes its own way."""
        told = House()
        told.state = self.state
        told.past = list(self.past)
        told.ahead = list(self.ahead)
        return told

    def __eq__(self, other):
        return isinstance(other, House) and self.state == other.state

    def __len__(self):
        return len([number for things in self.state[0].values() for number in things])

    def __repr__(self):
        return f"House({len(self.lamps())} lamps, {len(self.posts())} posts, {len(self.panes())} panes)"

    def __str__(self):
        return str(page_text(self.deeds()))
