"""Pieces and blocks: on which side a place lies, where figures meet, and at which shares.

Heights are as in hueshade.cuts: all 0 and more just for places in the figure.
"""

from hueshade.cuts import cut_down, end_shares


def lean(one, other, place):
    """Above 0 where the place lies left of the way from one to other, below 0 right, else 0."""
    across = other[0] - one[0]
    up = other[1] - one[1]
    return across * (place[1] - one[1]) - up * (place[0] - one[0])


def side(one, other, place):
    """1 where the place lies left of the way from one to other, -1 right, 0 on its straight line."""
    worth = lean(one, other, place)
    if worth > 0:
        return 1
    if worth < 0:
        return -1
    return 0


def box_around(piece):
    """The least block that has the piece."""
    (across, up), (other_across, other_up) = piece
    return (min(across, other_across), min(up, other_up), max(across, other_across), max(up, other_up))


def block_heights(block, place):
    """The place's heights for a block: how far it is inside of each edge."""
    left, low, right, high = block
    across, up = place
    return (across - left, right - across, up - low, high - up)


def piece_heights(piece, place):
    """The place's heights for a piece: neither side of its straight line, and in its box."""
    worth = lean(piece[0], piece[1], place)
    return (worth, -worth) + block_heights(box_around(piece), place)


def on_piece(place, piece):
    """Whether the place is a point of the piece."""
    return min(piece_heights(piece, place)) >= 0


def blocks_meet(one, other):
    """Whether two blocks have a point in common."""
    return one[0] <= other[2] and other[0] <= one[2] and one[1] <= other[3] and other[1] <= one[3]


def beside(piece, places):
    """Whether all places lie on one side of the piece's straight line, none on it."""
    sides = [side(piece[0], piece[1], place) for place in places]
    return min(sides) > 0 or max(sides) < 0


def pieces_meet(one, other):
    """Whether two pieces have a point in common."""
    # On one straight line pieces meet just where their boxes do; else each must cross the other's line.
    if not blocks_meet(box_around(one), box_around(other)):
        return False
    return not beside(one, other) and not beside(other, one)


def block_meets(block, piece):
    """Whether the block and the piece have a point in common."""
    if not blocks_meet(block, box_around(piece)):
        return False
    left, low, right, high = block
    return not beside(piece, [(left, low), (right, low), (right, high), (left, high)])


def met_shares(piece, rows):
    """The shares of the piece in a figure; rows has the heights of its two places."""
    met = cut_down([(1, 0), (0, 1)], rows)
    # Each share of a piece of one place twice is the same point; 0 stands for all of them.
    if met and piece[0] == piece[1]:
        return ((0, 1), (0, 1))
    return end_shares(met)


def piece_shares(other, piece):
    """The least and the greatest share of the piece at which it meets the other piece, or None."""
    return met_shares(piece, [piece_heights(other, place) for place in piece])


def block_shares(block, piece):
    """The least and the greatest share of the piece at which it meets the block, or None."""
    return met_shares(piece, [block_heights(block, place) for place in piece])
