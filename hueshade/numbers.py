"""Fractions: tuples (top, bottom) in lowest terms, bottom 1 and more."""

from hueshade.errors import Nought

FAR = 1000000


def common_part(one, other):
    """The greatest number that both are whole times of, 0 where both are 0."""
    one = abs(one)
    other = abs(other)
    while other != 0:
        one, other = other, one % other
    return one


def fraction(top, bottom=1):
    """The fraction of this worth; Nought where the bottom is 0."""
    if bottom == 0:
        raise Nought()
    part = common_part(top, bottom)
    # A part below nought turns both signs, so that the bottom told is above it.
    if bottom < 0:
        part = -part
    return (top // part, bottom // part)


def plus(one, other):
    """The sum of two fractions."""
    return fraction(one[0] * other[1] + other[0] * one[1], one[1] * other[1])


def less(one, other):
    """What is left of one when other is taken from it."""
    return fraction(one[0] * other[1] - other[0] * one[1], one[1] * other[1])


def times(one, other):
    """One as many times as other tells."""
    return fraction(one[0] * other[0], one[1] * other[1])


def middle(one, other):
    """The fraction midway between two."""
    return times(plus(one, other), (1, 2))


def order(one, other):
    """-1 where one is less than other, 0 where they are equal, 1 where it is greater."""
    # Bottoms are above nought, so the cross products stand as the fractions do.
    left = one[0] * other[1]
    right = other[0] * one[1]
    if left < right:
        return -1
    if left > right:
        return 1
    return 0


def whole_marks(told):
    """For each fraction of a list a whole number; these stand to one another as the fractions do."""
    # Unlike fractions are apart by one over both bottoms or more: so many times that is one or more.
    square = max([bottom for top, bottom in told], default=1) ** 2
    return [top * square // bottom for top, bottom in told]


def fraction_text(one):
    """The top, and a stroke and the bottom where that isn't 1."""
    top, bottom = one
    if bottom == 1:
        return f"{top}"
    return f"{top}/{bottom}"
