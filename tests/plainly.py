"""Other ways, by Python's own fractions, to find what hueshade.figures and hueshade.edges tell."""

from fractions import Fraction


def pair(share):
    return (share.numerator, share.denominator)


def told(shares):
    """Two shares as the program tells them."""
    return None if shares is None else (pair(shares[0]), pair(shares[1]))


def point_at(piece, share):
    (across, up), (other_across, other_up) = piece
    return (across + share * (other_across - across), up + share * (other_up - up))


def shares_from_to(low, high, start, end):
    """The shares from 0 to 1 at which a number that goes from start to end is from low to high."""
    if start == end:
        return (Fraction(0), Fraction(1)) if low <= start <= high else None
    ends = sorted(Fraction(edge - start) / (end - start) for edge in (low, high))
    least, greatest = max(ends[0], Fraction(0)), min(ends[1], Fraction(1))
    return (least, greatest) if least <= greatest else None


def block_shares(block, piece):
    left, low, right, high = block
    across = shares_from_to(left, right, piece[0][0], piece[1][0])
    up = shares_from_to(low, high, piece[0][1], piece[1][1])
    if across is None or up is None:
        return None
    least, greatest = max(across[0], up[0]), min(across[1], up[1])
    if least > greatest:
        return None
    return (Fraction(0), Fraction(0)) if piece[0] == piece[1] else (least, greatest)


def share_of(place, piece):
    """The share of a piece of two unlike places that the place is at, or None."""
    (across, up), (other_across, other_up) = piece
    if across != other_across:
        share = Fraction(place[0] - across) / (other_across - across)
    else:
        share = Fraction(place[1] - up) / (other_up - up)
    return share if 0 <= share <= 1 and point_at(piece, share) == place else None


def piece_shares(other, piece):
    if piece[0] == piece[1]:
        met = other[0] == piece[0] if other[0] == other[1] else share_of(piece[0], other) is not None
        return (Fraction(0), Fraction(0)) if met else None
    found = [share_of(place, piece) for place in other]
    if other[0] != other[1]:
        found += [Fraction(share) for share in (0, 1) if share_of(piece[share], other) is not None]
        found.append(crossing_share(other, piece))
    found = [share for share in found if share is not None]
    return (min(found), max(found)) if found else None


def line_share(one, other, line):
    """The share, from 0 to 1, of the line at which it crosses the straight line of two places."""
    away = (other[0] - one[0], other[1] - one[1])
    along = (line[1][0] - line[0][0], line[1][1] - line[0][1])
    bottom = away[0] * along[1] - away[1] * along[0]
    if bottom == 0:
        return None
    start = (line[0][0] - one[0], line[0][1] - one[1])
    share = Fraction(start[0] * away[1] - start[1] * away[0]) / bottom
    return share if 0 <= share <= 1 else None


def crossing_share(other, piece):
    share = line_share(other[0], other[1], piece)
    if share is None or share_of(point_at(piece, share), other) is None:
        return None
    return share


def shade(place, corners, shares_of, figure, line):
    """The end of a shade is an end of the line, one of the figure on it, or in line with a corner."""
    found = [Fraction(0), Fraction(1)] + list(shares_of(figure, line) or ())
    found += [line_share(place, corner, line) for corner in corners if corner != place]
    shaded = [
        share for share in found
        if share is not None and shares_of(figure, (place, point_at(line, share))) is not None
    ]
    return (min(shaded), max(shaded)) if shaded else None


def block_shade(place, block, line):
    left, low, right, high = block
    corners = [(left, low), (left, high), (right, low), (right, high)]
    return shade(place, corners, block_shares, block, line)


def piece_shade(place, piece, line):
    return shade(place, piece, piece_shares, piece, line)
