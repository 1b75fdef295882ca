"""The fewest lamps that meet a wish, and papers that fewer don't.

Lacks are a list with a row of three numbers for each want: how much of each colour is wanted beyond
what there is; from 0 down nothing is lacking. Gifts have for each menu lamp, for each want, the light
that it brings there.
"""

from hueshade.beams import brought, figures_of
from hueshade.checks import check_light, check_place
from hueshade.errors import BadMenu, BadWish
from hueshade.fitting import checked_setting
from hueshade.lights import BRIGHT
from hueshade.menus import all_rows, how_many

MOST_WISH = 8
MOST_WANTS = 6


def check_wish(house, menu, wants, most):
    """Refuses by Unknown, BadMenu, BadPlace, BadLight, BadWish, BadPlace, BadLight, BadWish."""
    checked_setting(house.state[0]["lamp"], None)
    if len(menu) < 1 or len(menu) > MOST_WISH:
        raise BadMenu()
    for lamp in menu:
        check_place(lamp[:2])
        check_light(lamp[2:], BRIGHT)
    if len(wants) < 1 or len(wants) > MOST_WANTS:
        raise BadWish()
    for want in wants:
        check_place(want[:2])
        check_light(want[2:], 24 * BRIGHT)
    if most < 0:
        raise BadWish()


def without(lacks, gift):
    """What lacks when a gift has come."""
    return [
        [lack - colour for lack, colour in zip(row, light)] for row, light in zip(lacks, gift)
    ]


def first_lacks(house, wants):
    """What lacks as the house stands."""
    return without([want[2:] for want in wants], [house.light(want[0], want[1]) for want in wants])


def gifts_of(house, menu, wants):
    """What each menu lamp brings to each want."""
    figures = figures_of(house.state[0])
    return [[brought(figures, lamp, want[:2]) for want in wants] for lamp in menu]


def choices_of(count):
    """All lists of some of so many lamps, shorter ones ahead, then as rows of numbers."""
    counts = [2] * count
    rows = all_rows(counts, most=how_many(counts))
    choices = [[at for at, taken in enumerate(row) if taken == 1] for row in rows]
    return sorted(choices, key=lambda choice: (len(choice), choice))


def is_met(lacks, gifts, choice):
    """Whether nothing lacks when these lamps have come."""
    left = lacks
    for lamp in choice:
        left = without(left, gifts[lamp])
    return max([max(row) for row in left]) <= 0


def fewest(lacks, gifts, most):
    """The first of the shortest choices of at most so many that leave nothing lacking, or None."""
    for choice in choices_of(len(gifts)):
        if len(choice) <= most and is_met(lacks, gifts, choice):
            return choice
    return None


def wish(house, menu, wants, *, most=MOST_WISH):
    """The places in the menu of the fewest lamps that meet the wish, or None; refused as check_wish."""
    check_wish(house, menu, wants, most)
    return fewest(first_lacks(house, wants), gifts_of(house, menu, wants), most)


def lacking(lacks):
    """The tuples (want, colour) of what lacks."""
    return [(want, colour) for want, row in enumerate(lacks) for colour, lack in enumerate(row) if lack > 0]


def is_short(lacks, gifts, others, more, spot):
    """Whether at a want, in a colour, so many of the other lamps bring too little."""
    want, colour = spot
    brings = sorted([gifts[lamp][want][colour] for lamp in others], reverse=True)
    return sum(brings[:more]) < lacks[want][colour]


def paper(lacks, gifts, others, more):
    """A paper that no choice of at most so many of the other lamps leaves nothing lacking."""
    spots = lacking(lacks)
    for spot in spots:
        if is_short(lacks, gifts, others, more, spot):
            return ("short", *spot)
    want, colour = spots[0]
    rows = []
    left = list(others)
    for lamp in others:
        if gifts[lamp][want][colour] > 0:
            left = [other for other in left if other != lamp]
            rows.append((lamp, paper(without(lacks, gifts[lamp]), gifts, left, more - 1)))
    return ("cases", want, colour, rows)


def wish_paper(house, menu, wants, *, most=0):
    """A paper that no choice of at most so many meets the wish, or None; refused as check_wish."""
    check_wish(house, menu, wants, most)
    lacks = first_lacks(house, wants)
    gifts = gifts_of(house, menu, wants)
    if fewest(lacks, gifts, most) is not None:
        return None
    return paper(lacks, gifts, list(range(len(menu))), most)
