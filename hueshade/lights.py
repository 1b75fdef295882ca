"""Lights, tuples (red, green, blue), and sifts, the texts of the colours that are let by."""

from hueshade.errors import BadSift

BRIGHT = 1000000
SIFTS = ("", "r", "g", "b", "rg", "rb", "gb", "rgb")
DARK = (0, 0, 0)


def check_sift(sift):
    """Refuses what is none of SIFTS."""
    if sift not in SIFTS:
        raise BadSift()


def sifted(light, sift):
    """What the sift lets by of the light; BadSift."""
    check_sift(sift)
    red, green, blue = light
    return (
        red if "r" in sift else 0,
        green if "g" in sift else 0,
        blue if "b" in sift else 0,
    )


def summed(lights):
    """The sum of lights, colour by colour; DARK where there are none."""
    red, green, blue = DARK
    for light in lights:
        red += light[0]
        green += light[1]
        blue += light[2]
    return (red, green, blue)


def both_sifts(one, other):
    """The sift that lets by what both do; BadSift."""
    check_sift(one)
    check_sift(other)
    return "".join([letter for letter in one if letter in other])
