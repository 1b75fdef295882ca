"""The light along a line.

A shade is a tuple (sift, least, greatest): the post or pane meets the ways from a lamp to just the
shares of the line from least to greatest, and is this sift to them. Lamps are told as a list of
tuples (light, shades).
"""

from hueshade.beams import ALL_COLOURS, figures_of
from hueshade.edges import block_shade, piece_shade
from hueshade.lights import both_sifts, sifted, summed
from hueshade.numbers import order, whole_marks


def shades_of(figures, place, line):
    """The shades of all figures on the line for a lamp at this place."""
    shades = []
    for sort, number, thing in figures:
        if sort == "post":
            sift = ""
            ends = block_shade(place, thing, line)
        else:
            piece, sift = thing
            ends = piece_shade(place, piece, line)
        if ends is not None:
            shades.append((sift, *ends))
    return shades


def shaded_lamps(floor, lamps, line):
    """The lights of the lamps that are on, tuples (number, choice), with their shades on the line."""
    figures = figures_of(floor)
    return [(choice[2:], shades_of(figures, choice[:2], line)) for number, choice in lamps]


def light_at_share(shaded, share):
    """The light at a share of the line."""
    lights = []
    for light, shades in shaded:
        sift = ALL_COLOURS
        for own, least, greatest in shades:
            if order(least, share) <= 0 and order(share, greatest) <= 0:
                sift = both_sifts(sift, own)
        lights.append(sifted(light, sift))
    return summed(lights)


def rising_ends(shaded):
    """All unlike ends of shades and of the line, rising."""
    ends = [(0, 1), (1, 1)]
    for light, shades in shaded:
        for sift, least, greatest in shades:
            ends.extend([least, greatest])
    by_mark = {mark: share for mark, share in zip(whole_marks(ends), ends)}
    return [by_mark[mark] for mark in sorted(by_mark)]


def part_lights(shaded, ends):
    """The light of each part of the line: by turns an end and what lies between it and the next one."""
    part_of = {share: 2 * at for at, share in enumerate(ends)}
    many = 2 * len(ends) - 1
    rows = []
    for light, shades in shaded:
        sifts = [ALL_COLOURS] * many
        for own, least, greatest in shades:
            for part in range(part_of[least], part_of[greatest] + 1):
                sifts[part] = both_sifts(sifts[part], own)
        rows.append([sifted(light, sift) for sift in sifts])
    return [summed([row[part] for row in rows]) for part in range(many)]


def stretches_of(shaded):
    """The stretches (from, from_in, to, to_in, light) of the line."""
    ends = rising_ends(shaded)
    lights = part_lights(shaded, ends)
    told = []
    first = 0
    for part, light in enumerate(lights):
        if part + 1 < len(lights) and lights[part + 1] == light:
            continue
        # Even parts are ends, which belong to their stretch; odd ones lie between two ends.
        told.append((ends[first // 2], first % 2 == 0, ends[(part + 1) // 2], part % 2 == 0, light))
        first = part + 1
    return told
