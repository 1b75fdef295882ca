"""Shades: the shares of a line whose way from a place meets a block or a piece."""

from hueshade.cuts import cut_down, end_shares
from hueshade.figures import block_heights, piece_heights


def shade(rows):
    """The shaded shares of a line; rows has the figure's heights of the place and the line's ends."""
    # A place in the figure is on every way, but as a point of the triangle it has no share of the line.
    if min(rows[0]) >= 0:
        return ((0, 1), (1, 1))
    # The ways fill the triangle of the place and the line; what of it lies in the figure shades.
    return end_shares(cut_down([(1, 0, 0), (0, 1, 0), (0, 0, 1)], rows))


def block_shade(place, block, line):
    """The least and the greatest share of the line whose way from the place meets the block, or None."""
    return shade([block_heights(block, corner) for corner in (place, *line)])


def piece_shade(place, piece, line):
    """The least and the greatest share of the line whose way from the place meets the piece, or None."""
    return shade([piece_heights(piece, corner) for corner in (place, *line)])
