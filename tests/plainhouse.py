"""A house done plainly: copies of everything, going through all settings, Python's own fractions."""

import copy
import itertools
import random

import plainly

FAR = 1000000
BRIGHT = 1000000
SIFTS = ("", "r", "g", "b", "rg", "rb", "gb", "rgb")
SORTS = ("lamp", "post", "pane")
LENGTHS = {
    "lamp": 6, "unsure": 2, "post": 5, "pane": 6, "move": 5, "switch": 2, "drop": 3, "look": 6, "strike": 2,
    "settle": 3, "many": 2,
}


class Refused(Exception):
    """What a deed is refused by: the name of the class and its fields."""

    def __init__(self, name, **fields):
        super().__init__(name)
        self.told = (name, fields)


def refuse(due, name, **fields):
    if due:
        raise Refused(name, **fields)


def beyond(*numbers):
    return any(not -FAR <= number <= FAR for number in numbers)


def too_bright(light, most=BRIGHT):
    return any(not 0 <= colour <= most for colour in light)


def come(floor, choice, point):
    """What comes to the point from a lamp of this choice that is on."""
    way = (choice[:2], point)
    light = list(choice[2:])
    if any(plainly.block_shares(block, way) is not None for block in floor["post"].values()):
        return (0, 0, 0)
    for piece, sift in floor["pane"].values():
        if plainly.piece_shares(piece, way) is not None:
            light = [worth if letter in sift else 0 for letter, worth in zip("rgb", light)]
    return tuple(light)


def counts(floor):
    return [len(choices) for choices, on in floor["lamp"].values() if len(choices) > 1]


def settings(floor):
    return list(itertools.product(*[range(count) for count in counts(floor)]))


def true_choices(floor, setting, lamps=None):
    """The true choices of the floor's lamps; lamps are all that the setting is for."""
    open_ones = [number for number, (choices, on) in (lamps or floor["lamp"]).items() if len(choices) > 1]
    at = dict(zip(open_ones, setting))
    return {number: choices[at.get(number, 0)] for number, (choices, on) in floor["lamp"].items()}


def light(floor, setting, point, lamps=None):
    total = [0, 0, 0]
    for number, choice in true_choices(floor, setting, lamps).items():
        if floor["lamp"][number][1]:
            total = [one + other for one, other in zip(total, come(floor, choice, point))]
    return tuple(total)


def reasons(floor, setting, point):
    told = []
    for number, choice in true_choices(floor, setting).items():
        if not floor["lamp"][number][1]:
            continue
        way = (choice[:2], point)
        met = [(plainly.block_shares(block, way), 0, "post", other) for other, block in floor["post"].items()]
        met += [(plainly.piece_shares(pane[0], way), 1, "pane", other) for other, pane in floor["pane"].items()]
        met = sorted((row[0][0], row[1], row[3], row[2]) for row in met if row[0] is not None)
        told.append((number, come(floor, choice, point), [(row[3], row[2]) for row in met]))
    return told


def corners(block):
    left, low, right, high = block
    return [(left, low), (left, high), (right, low), (right, high)]


def turns(floor, setting, line):
    """All shares at which the light can change along the line, and both ends."""
    found = [0, 1]
    places = [choice[:2] for choice in true_choices(floor, setting).values()]
    for block in floor["post"].values():
        found += list(plainly.block_shares(block, line) or ())
        found += [plainly.line_share(place, corner, line) for place in places for corner in corners(block)]
    for piece, sift in floor["pane"].values():
        found += list(plainly.piece_shares(piece, line) or ())
        found += [plainly.line_share(place, corner, line) for place in places for corner in piece]
    return sorted({plainly.Fraction(share) for share in found if share is not None})


def along(floor, setting, line):
    ends = turns(floor, setting, line)
    parts = []
    for at, share in enumerate(ends):
        parts.append((share, True, share, True, light(floor, setting, plainly.point_at(line, share))))
        if at + 1 < len(ends):
            between = (share + ends[at + 1]) / 2
            told = light(floor, setting, plainly.point_at(line, between))
            parts.append((share, False, ends[at + 1], False, told))
    joined = [parts[0]]
    for part in parts[1:]:
        if part[4] == joined[-1][4]:
            joined[-1] = (*joined[-1][:2], *part[2:])
        else:
            joined.append(part)
    return [(plainly.pair(one), one_in, plainly.pair(other), other_in, told)
            for one, one_in, other, other_in, told in joined]


def shift(place, right, up):
    return (place[0] + right, place[1] + up)


def move(floor, sort, number, right, up):
    """Moves a thing on this very floor."""
    refuse(sort not in SORTS, "BadSort")
    refuse(number not in floor[sort], "NoThing", kind=sort, number=number)
    thing = floor[sort][number]
    if sort == "lamp":
        told = [tuple((*shift(choice, right, up), *choice[2:]) for choice in thing[0]), thing[1]]
        places = [choice[:2] for choice in told[0]]
    elif sort == "post":
        told = (*shift(thing[:2], right, up), *shift(thing[2:], right, up))
        places = [told[:2], told[2:]]
    else:
        told = (tuple(shift(place, right, up) for place in thing[0]), thing[1])
        places = told[0]
    refuse(any(beyond(*place) for place in places), "BadPlace")
    floor[sort][number] = told


class PlainHouse:
    def __init__(self):
        self.now = {"lamp": {}, "post": {}, "pane": {}, "look": {}, "next": dict.fromkeys((*SORTS, "look"), 1)}
        self.past = []
        self.ahead = []

    def do(self, deed):
        before = copy.deepcopy(self.now)
        try:
            told = self.work(deed)
        except Refused:
            self.now = before
            raise
        self.past.append((deed, before))
        self.ahead = []
        return told

    def undo(self):
        refuse(not self.past, "NothingLeft")
        deed, before = self.past.pop()
        self.ahead.append((deed, self.now))
        self.now = before
        return deed

    def redo(self):
        refuse(not self.ahead, "NothingLeft")
        deed, behind = self.ahead.pop()
        self.past.append((deed, self.now))
        self.now = behind
        return deed

    def work(self, deed):
        refuse(deed == () or deed[0] not in LENGTHS or len(deed) != LENGTHS[deed[0]], "BadDeed")
        return getattr(self, "work_" + deed[0])(*deed[1:])

    def number(self, sort):
        told = self.now["next"][sort]
        self.now["next"][sort] += 1
        return told

    def put(self, sort, thing):
        refuse(len(self.now[sort]) == 12, "Full")
        number = self.number(sort)
        self.now[sort][number] = thing
        return number

    def work_lamp(self, across, up, *colours):
        refuse(beyond(across, up), "BadPlace")
        refuse(too_bright(colours), "BadLight")
        return self.put("lamp", [((across, up, *colours),), True])

    def work_unsure(self, choices):
        refuse(not 2 <= len(choices) <= 6 or len(set(choices)) != len(choices), "BadMenu")
        for choice in choices:
            refuse(beyond(*choice[:2]), "BadPlace")
            refuse(too_bright(choice[2:]), "BadLight")
        refuse(len(settings(self.now)) * len(choices) > 200, "Full")
        return self.put("lamp", [choices, True])

    def work_post(self, *block):
        refuse(beyond(*block), "BadPlace")
        refuse(block[0] > block[2] or block[1] > block[3], "BadBlock")
        return self.put("post", block)

    def work_pane(self, across, up, other_across, other_up, sift):
        refuse(beyond(across, up, other_across, other_up), "BadPlace")
        refuse((across, up) == (other_across, other_up), "BadPiece")
        refuse(sift not in SIFTS, "BadSift")
        return self.put("pane", (((across, up), (other_across, other_up)), sift))

    def work_move(self, sort, number, right, up):
        move(self.now, sort, number, right, up)

    def lamp_of(self, number):
        refuse(number not in self.now["lamp"], "NoThing", kind="lamp", number=number)
        return self.now["lamp"][number]

    def work_switch(self, number):
        self.now["lamp"][number] = [self.lamp_of(number)[0], not self.lamp_of(number)[1]]

    def work_drop(self, sort, number):
        refuse(sort not in SORTS, "BadSort")
        refuse(number not in self.now[sort], "NoThing", kind=sort, number=number)
        for look in sorted(self.now["look"]):
            stood = self.now["look"][look][2]
            refuse(sort == "lamp" and number in stood["lamp"], "Looked", number=look)
        del self.now[sort][number]

    def work_look(self, across, up, *colours):
        refuse(beyond(across, up), "BadPlace")
        refuse(too_bright(colours, 12 * BRIGHT), "BadLight")
        refuse(len(self.now["look"]) == 24, "Full")
        number = self.number("look")
        floor = copy.deepcopy({sort: self.now[sort] for sort in SORTS})
        self.now["look"][number] = ((across, up), colours, floor)
        return number

    def work_strike(self, number):
        refuse(number not in self.now["look"], "NoLook", number=number)
        del self.now["look"][number]

    def work_settle(self, number, at):
        count = len(self.lamp_of(number)[0])
        refuse(not 0 <= at < count, "BadChoice")
        for floor in [self.now] + [look[2] for look in self.now["look"].values()]:
            if number in floor["lamp"]:
                choices, on = floor["lamp"][number]
                floor["lamp"][number] = [(choices[at],), on]

    def work_many(self, deeds):
        refuse(any(deed and deed[0] == "many" for deed in deeds), "BadDeed")
        return [self.work(deed) for deed in deeds]

    def lamps(self):
        return [(number, choices, on) for number, (choices, on) in sorted(self.now["lamp"].items())]

    def posts(self):
        return sorted(self.now["post"].items())

    def panes(self):
        return [(number, piece, sift) for number, (piece, sift) in sorted(self.now["pane"].items())]

    def looks(self):
        return [(number, place, seen) for number, (place, seen, floor) in sorted(self.now["look"].items())]

    def meets(self, look, setting):
        place, seen, floor = self.now["look"][look]
        return light(floor, setting, place, self.now["lamp"]) == seen

    def fits(self, looks=None):
        numbers = list(self.now["look"]) if looks is None else looks
        return [setting for setting in settings(self.now) if all(self.meets(look, setting) for look in numbers)]

    def lights(self, point):
        return sorted({light(self.now, setting, point) for setting in self.fits()})

    def left(self, number):
        open_ones = [other for other, choices, on in self.lamps() if len(choices) > 1]
        return sorted({dict(zip(open_ones, setting)).get(number, 0) for setting in self.fits()})


def some_choice(chance, reach=6):
    far = [chance.randint(-reach, reach) for axis in range(2)]
    return (*far, *[chance.choice((0, 1, 2, 5, 9)) for colour in range(3)])


def some_deed(chance, reach=6):
    """A deed that is mostly let."""
    def near():
        return chance.randint(-reach, reach)

    word = chance.choice(("lamp", "unsure", "post", "pane", "move", "switch", "drop", "look", "strike", "settle"))
    number = chance.randint(1, 5)
    if word == "lamp":
        return (word, *some_choice(chance, reach))
    if word == "unsure":
        return (word, tuple(some_choice(chance, reach) for choice in range(chance.randint(2, 3))))
    if word == "post":
        left, low = near(), near()
        return (word, left, low, left + chance.randint(0, 3), low + chance.randint(0, 3))
    if word == "pane":
        return (word, near(), near(), near(), near(), chance.choice(SIFTS))
    if word == "move":
        return (word, chance.choice(SORTS), number, chance.randint(-3, 3), chance.randint(-3, 3))
    if word == "drop":
        return (word, chance.choice(SORTS), number)
    if word == "look":
        return (word, near(), near(), *[chance.choice((0, 0, 1, 5, 9)) for colour in range(3)])
    if word == "settle":
        return (word, number, chance.randint(0, 2))
    return (word, number)


def some_house(chance, deeds, lamps=3, posts=3, panes=3, opens=0, reach=6, off=0.15):
    """Deeds that make a small floor; deeds is a list that they are put behind."""
    for lamp in range(lamps):
        deeds.append(("lamp", *some_choice(chance, reach)))
    for lamp in range(opens):
        rows = {some_choice(chance, reach): True for choice in range(chance.randint(2, 3))}
        rows[(0, 0, 1, 2, 3)] = True
        deeds.append(("unsure", tuple(rows)))
    for number in range(1, lamps + opens + 1):
        if chance.random() < off:
            deeds.append(("switch", number))
    for post in range(posts):
        left, low = chance.randint(-reach, reach), chance.randint(-reach, reach)
        deeds.append(("post", left, low, left + chance.choice((0, 0, 1, 3)), low + chance.choice((0, 0, 1, 3))))
    while panes:
        one, other = some_choice(chance, reach)[:2], some_choice(chance, reach)[:2]
        if one != other:
            deeds.append(("pane", *one, *other, chance.choice(SIFTS)))
            panes -= 1
    return deeds


def both_of(deeds, house_class):
    """A house of the program and a plain one, of the same deeds."""
    house, plain = house_class(), PlainHouse()
    for deed in deeds:
        house.do(deed)
        plain.do(deed)
    return house, plain


def seeded(number):
    return random.Random(number)
