"""What comes from lamps to a point, and what meets its way.

A figure is a tuple (sort, number, thing) of a post or a pane.
"""

from hueshade.figures import block_meets, block_shares, piece_shares, pieces_meet
from hueshade.lights import DARK, both_sifts, sifted, summed
from hueshade.numbers import whole_marks

ALL_COLOURS = "rgb"


def figures_of(floor):
    """The posts, then the panes of a floor, by their numbers."""
    return [(sort, number, thing) for sort in ("post", "pane") for number, thing in floor[sort].items()]


def let_by(sort, thing, way):
    """The sift that the post or pane is to what goes this way."""
    if sort == "post":
        return "" if block_meets(thing, way) else ALL_COLOURS
    piece, sift = thing
    return sift if pieces_meet(piece, way) else ALL_COLOURS


def let_by_all(figures, way):
    """The sift that all the figures together are to what goes this way."""
    sift = ALL_COLOURS
    for sort, number, thing in figures:
        # What is stopped once stays so, whatever else is met.
        if sift == "":
            break
        sift = both_sifts(sift, let_by(sort, thing, way))
    return sift


def brought(figures, choice, point):
    """What comes to the point from a lamp of this choice that is on."""
    return sifted(choice[2:], let_by_all(figures, (choice[:2], point)))


def choice_lights(floor, point):
    """For each lamp, by its number, the list of what comes to the point under each of its choices."""
    figures = figures_of(floor)
    return {
        number: [brought(figures, choice, point) if on else DARK for choice in choices]
        for number, (choices, on) in floor["lamp"].items()
    }


def picked_light(table, picks):
    """The sum of the lights of a table as choice_lights tells it, under the picked choices."""
    return summed([rows[picks[number]] for number, rows in table.items()])


def first_share(sort, thing, way):
    """The share of the way at which the post or pane is met first, or None."""
    if sort == "post":
        shares = block_shares(thing, way)
    else:
        shares = piece_shares(thing[0], way)
    return None if shares is None else shares[0]


def met_things(figures, way):
    """The list of tuples (sort, number) of the figures that meet the way, as they are met."""
    met = []
    for sort, number, thing in figures:
        share = first_share(sort, thing, way)
        if share is not None:
            met.append((share, (sort, number)))
    marks = whole_marks([share for share, name in met])
    # Sorting keeps figures of the same share as they stood: posts ahead, lesser numbers ahead.
    return [name for mark, (share, name) in sorted(list(zip(marks, met)), key=lambda row: row[0])]


def reasons_of(floor, lamps, point):
    """The reasons of a point; lamps is the list of tuples (number, choice) of those that are on."""
    figures = figures_of(floor)
    return [
        (number, brought(figures, choice, point), met_things(figures, (choice[:2], point)))
        for number, choice in lamps
    ]
