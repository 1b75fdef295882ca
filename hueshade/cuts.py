"""Cutting a piece or a triangle down to what of it lies in a figure, in whole numbers alone.

A point is told by weights, one for each corner of the piece or triangle: numbers from 0 on, not all
of them 0, and the point is the middle of the corners so weighted. A figure is told by heights:
numbers for a place that are all 0 and more just where the place lies in the figure, and that grow
evenly along each straight way.
"""

from hueshade.numbers import common_part, fraction, order


def height(weights, heights):
    """How high the point of these weights is, from the heights of the corners."""
    return sum([weight * high for weight, high in zip(weights, heights)])


def between(one, one_height, other, other_height):
    """The point between two at which the height is 0; one of theirs is above, one below."""
    weights = [
        weight * abs(other_height) + other_weight * abs(one_height)
        for weight, other_weight in zip(one, other)
    ]
    # Without this the figures of the weights would double with each cut.
    part = 0
    for weight in weights:
        part = common_part(part, weight)
    return tuple([weight // part for weight in weights])


def cut(points, heights):
    """What of the points' hull is at height 0 and more; points stand in order around their hull."""
    kept = []
    for at, point in enumerate(points):
        before = points[at - 1]
        here = height(point, heights)
        there = height(before, heights)
        if here * there < 0:
            kept.append(between(before, there, point, here))
        if here >= 0:
            kept.append(point)
    return kept


def cut_down(points, rows):
    """What of the points' hull lies in a figure; rows has the heights of each corner."""
    left = points
    for heights in zip(*rows):
        left = cut(left, heights)
    return left


def end_shares(points):
    """The least and the greatest share of the way from the last corner but one to the last, or None.

    At least one of these two corners has some weight in each point.
    """
    if not points:
        return None
    told = [fraction(point[-1], point[-2] + point[-1]) for point in points]
    least = greatest = told[0]
    for share in told:
        if order(share, least) < 0:
            least = share
        if order(share, greatest) > 0:
            greatest = share
    return (least, greatest)
