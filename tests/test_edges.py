"""Shades of blocks and pieces on a line."""

import unittest
from fractions import Fraction
from math import gcd

import plainly

from hueshade.edges import block_shade, piece_shade

LONG = 999999999999999999999999999999
GRID = [(across, up) for across in range(3) for up in range(3)]
WIDE_GRID = [(across, up) for across in range(-1, 4) for up in range(-1, 4)]
LINES = [(one, other) for one in WIDE_GRID for other in WIDE_GRID if one != other]
BLOCKS = ((0, 0, 1, 2), (1, 1, 2, 2), (0, 1, 2, 1), (1, 0, 1, 2), (1, 1, 1, 1), (0, 0, 2, 2))
PIECES = [(one, other) for one in GRID for other in GRID][::7]
FAR_NUMBERS = [pow(7, step, 10 ** 30) * (-1) ** (step // 3) for step in range(60, 100)]
FAR_PIECES = [tuple(zip(FAR_NUMBERS[at::20], FAR_NUMBERS[at + 7::20])) for at in range(13)]

WHOLE = ((0, 1), (1, 1))
START = ((0, 1), (0, 1))
END = ((1, 1), (1, 1))

# Above the place (0, 0), from ten left to ten right.
ABOVE = ((-10, 10), (10, 10))
# Through the place (0, 0).
ACROSS = ((-5, 0), (5, 0))


def turned(piece):
    return (piece[1], piece[0])


def turned_shares(shares):
    """The same shares of the line the other way about."""
    if shares is None:
        return None
    (least, bottom), (greatest, other_bottom) = shares
    return ((other_bottom - greatest, other_bottom), (bottom - least, bottom))


def flipped_piece(piece):
    """The piece with across and up exchanged."""
    return (piece[0][::-1], piece[1][::-1])


def flipped_block(block):
    left, low, right, high = block
    return (low, left, high, right)


class ShadeCase(unittest.TestCase):
    def assert_shade(self, told, wanted, why):
        self.assertEqual(told, wanted, why)
        if told is None:
            return
        self.assertEqual([type(told), type(told[0]), type(told[1])], [tuple] * 3, why)
        for top, bottom in told:
            self.assertEqual([type(top), type(bottom)], [int, int], why)
            self.assertGreaterEqual(bottom, 1, why)
            self.assertEqual(gcd(top, bottom), 1, why)
            self.assertTrue(0 <= top <= bottom, why)
        self.assertLessEqual(told[0][0] * told[1][1], told[1][0] * told[0][1], why)

    def check_block(self, place, block, line, wanted):
        """The line both ways about, and all of it with across and up exchanged."""
        for way, shares in ((line, wanted), (turned(line), turned_shares(wanted))):
            why = (place, block, way)
            self.assert_shade(block_shade(place, block, way), shares, why)
            self.assert_shade(block_shade(place[::-1], flipped_block(block), flipped_piece(way)), shares, why)

    def check_piece(self, place, piece, line, wanted):
        """The line and the piece both ways about, and all of it with across and up exchanged."""
        for way, shares in ((line, wanted), (turned(line), turned_shares(wanted))):
            for figure in (piece, turned(piece)):
                why = (place, figure, way)
                self.assert_shade(piece_shade(place, figure, way), shares, why)
                self.assert_shade(piece_shade(place[::-1], flipped_piece(figure), flipped_piece(way)), shares, why)

    def check_each_share(self, told, shares_of, place, figure, line):
        """A share has a way that meets the figure just where it is one of those that are told."""
        for step in range(13):
            share = Fraction(step, 12)
            met = shares_of(figure, (place, plainly.point_at(line, share))) is not None
            inside = told is not None and Fraction(*told[0]) <= share <= Fraction(*told[1])
            self.assertEqual(inside, met, (place, figure, line, share))


class TestBlockShade(ShadeCase):
    def test_between_place_and_line(self):
        self.check_block((0, 0), (-1, 5, 1, 5), ABOVE, ((2, 5), (3, 5)))
        self.check_block((0, 0), (-1, 4, 1, 5), ABOVE, ((3, 8), (5, 8)))
        self.check_block((0, 0), (-1, 5, 1, 6), ABOVE, ((2, 5), (3, 5)))
        self.check_block((0, 0), (1, 5, 3, 6), ABOVE, ((7, 12), (4, 5)))

    def test_slanting_line(self):
        self.check_block((0, 0), (1, 1, 2, 2), ((4, 0), (0, 4)), ((1, 3), (2, 3)))
        self.check_block((0, 0), (1, 1, 2, 2), ((6, 0), (0, 3)), ((1, 2), (4, 5)))

    def test_line_through_the_block(self):
        self.check_block((0, 0), (2, 2, 4, 4), ((0, 3), (8, 3)), ((1, 4), (3, 4)))
        self.check_block((3, -9), (2, 2, 4, 4), ((0, 3), (8, 3)), ((21, 88), (45, 88)))

    def test_line_that_touches_the_block(self):
        self.check_block((0, 0), (-1, 10, 1, 12), ABOVE, ((9, 20), (11, 20)))
        self.check_block((0, 0), (2, 2, 3, 3), ((0, 4), (4, 0)), ((1, 2), (1, 2)))

    def test_behind_the_line_is_no_shade(self):
        self.check_block((0, 0), (-1, 11, 1, 12), ABOVE, None)
        self.check_block((0, 0), (3, 3, 9, 9), ((0, 4), (4, 0)), None)

    def test_behind_the_place_is_no_shade(self):
        self.check_block((0, 0), (-1, -5, 1, -4), ABOVE, None)
        self.check_block((0, 0), (-1, -5, 1, -1), ABOVE, None)

    def test_beside_the_ways_is_no_shade(self):
        self.check_block((0, 0), (6, 5, 7, 5), ABOVE, None)
        self.check_block((0, 0), (-9, 1, -2, 1), ABOVE, None)

    def test_shade_that_reaches_an_end(self):
        self.check_block((0, 0), (4, 5, 9, 5), ABOVE, ((9, 10), (1, 1)))
        self.check_block((0, 0), (-9, 5, -4, 5), ABOVE, ((0, 1), (1, 10)))

    def test_shade_that_is_one_point(self):
        self.check_block((0, 0), (5, 3, 9, 5), ABOVE, END)
        self.check_block((0, 0), (-9, 3, -5, 5), ABOVE, START)
        self.check_block((0, 0), (1, 5, 1, 5), ABOVE, ((3, 5), (3, 5)))
        self.check_block((0, 0), (0, 4, 0, 5), ABOVE, ((1, 2), (1, 2)))
        self.check_block((0, 0), (2, 10, 2, 99), ABOVE, ((3, 5), (3, 5)))
        self.check_block((0, 0), (10, 10, 12, 12), ABOVE, END)

    def test_shade_that_is_the_whole_line(self):
        self.check_block((0, 0), (-5, 5, 5, 5), ABOVE, WHOLE)
        self.check_block((0, 0), (-6, 4, 6, 5), ABOVE, WHOLE)
        self.check_block((0, 0), (-99, 1, 99, 99), ABOVE, WHOLE)

    def test_place_in_the_block(self):
        for block in ((-1, -1, 1, 1), (0, 0, 1, 1), (-5, -5, 0, 0), (0, 0, 0, 0), (-1, 0, 1, 0), (0, 0, 0, 99)):
            for line in (ABOVE, ACROSS, ((0, 0), (9, 0)), ((3, 0), (9, 0)), ((2, 5), (3, 8))):
                self.check_block((0, 0), block, line, WHOLE)

    def test_place_on_the_line(self):
        self.check_block((0, 0), (2, -1, 3, 1), ACROSS, ((7, 10), (1, 1)))
        self.check_block((0, 0), (-3, -1, -2, 1), ACROSS, ((0, 1), (3, 10)))
        self.check_block((0, 0), (5, -1, 6, 1), ACROSS, END)
        self.check_block((0, 0), (6, -1, 7, 1), ACROSS, None)
        self.check_block((0, 0), (2, 1, 3, 2), ACROSS, None)
        self.check_block((-5, 0), (-4, 0, -4, 0), ACROSS, ((1, 10), (1, 1)))
        self.check_block((-5, 0), (5, 0, 5, 0), ACROSS, END)
        self.check_block((5, 0), (-9, 0, -5, 0), ACROSS, START)
        self.check_block((1, 2), (3, 5, 4, 9), ((-3, -4), (9, 14)), ((1, 2), (1, 1)))

    def test_place_in_line_with_it(self):
        self.check_block((-9, 0), (-8, -1, -7, 1), ACROSS, WHOLE)
        self.check_block((-9, 0), (-8, 0, -8, 0), ACROSS, WHOLE)
        self.check_block((-9, 0), (-5, -1, -5, 1), ACROSS, WHOLE)
        self.check_block((-9, 0), (0, 0, 1, 1), ACROSS, ((1, 2), (1, 1)))
        self.check_block((9, 0), (0, 0, 1, 1), ACROSS, ((0, 1), (3, 5)))
        self.check_block((-9, 0), (5, 0, 6, 1), ACROSS, END)
        self.check_block((-9, 0), (6, 0, 7, 1), ACROSS, None)
        self.check_block((-9, 0), (-11, -1, -10, 1), ACROSS, None)
        self.check_block((-9, 0), (-8, 1, 8, 2), ACROSS, None)

    def test_grid(self):
        cases = [(place, block, line) for place in WIDE_GRID for block in BLOCKS for line in LINES]
        for place, block, line in cases[::23]:
            wanted = plainly.told(plainly.block_shade(place, block, line))
            self.check_block(place, block, line, wanted)

    def test_all_between_are_shaded_and_no_others(self):
        cases = [(place, block, line) for place in WIDE_GRID for block in BLOCKS for line in LINES]
        for place, block, line in cases[::101]:
            told = block_shade(place, block, line)
            self.check_each_share(told, plainly.block_shares, place, block, line)

    def test_far(self):
        met = 0
        for at, (one, other) in enumerate(FAR_PIECES):
            block = (min(one[0], other[0]), min(one[1], other[1]), max(one[0], other[0]), max(one[1], other[1]))
            for line in FAR_PIECES:
                for place in FAR_PIECES[at - 1]:
                    wanted = plainly.told(plainly.block_shade(place, block, line))
                    self.check_block(place, block, line, wanted)
                    met += wanted not in (None, WHOLE)
        self.assertGreater(met, 9)

    def test_far_by_hand(self):
        line = ((-LONG, LONG), (LONG, LONG))
        self.check_block((0, 0), (0, 1, 1, 1), line, ((1, 2), (1, 1)))
        self.check_block((0, 0), (0, LONG, 1, LONG), line, ((1, 2), ((LONG + 1) // 2, LONG)))
        self.check_block((0, 0), (1, LONG - 1, 1, LONG - 1), line, ((LONG, 2 * LONG - 2), (LONG, 2 * LONG - 2)))
        self.check_block((0, -LONG), (-LONG, 0, LONG, 0), line, WHOLE)
        self.check_block((0, -LONG), (LONG, -LONG, LONG, 0), line, None)

    def test_by_name(self):
        told = block_shade(line=ABOVE, block=(-1, 5, 1, 5), place=(0, 0))
        self.assertEqual(told, ((2, 5), (3, 5)))

    def test_asked_again(self):
        handed = ((0, 0), (-1, 5, 1, 5), ((-10, 10), (10, 10)))
        self.assertEqual([block_shade(*handed) for step in range(3)], [((2, 5), (3, 5))] * 3)
        self.assertEqual(handed, ((0, 0), (-1, 5, 1, 5), ((-10, 10), (10, 10))))


class TestPieceShade(ShadeCase):
    def test_between_place_and_line(self):
        self.check_piece((0, 0), ((-1, 5), (1, 5)), ABOVE, ((2, 5), (3, 5)))
        self.check_piece((0, 0), ((0, 4), (2, 5)), ABOVE, ((1, 2), (7, 10)))
        self.check_piece((0, 0), ((2, 1), (1, 2)), ((4, 0), (0, 4)), ((1, 3), (2, 3)))

    def test_piece_across_the_line(self):
        self.check_piece((0, 0), ((-2, 8), (2, 12)), ABOVE, ((3, 8), (1, 2)))
        self.check_piece((0, 0), ((3, 8), (3, 12)), ABOVE, ((13, 20), (11, 16)))

    def test_piece_along_the_line(self):
        self.check_piece((0, 0), ((-2, 10), (3, 10)), ABOVE, ((2, 5), (13, 20)))
        self.check_piece((0, 0), ((-20, 10), (-9, 10)), ABOVE, ((0, 1), (1, 20)))
        self.check_piece((0, 0), ((10, 10), (11, 10)), ABOVE, END)
        self.check_piece((0, 0), ((11, 10), (12, 10)), ABOVE, None)

    def test_piece_that_touches_the_line_from_behind(self):
        self.check_piece((0, 0), ((3, 10), (5, 12)), ABOVE, ((13, 20), (13, 20)))

    def test_behind_and_beside_is_no_shade(self):
        self.check_piece((0, 0), ((-1, 11), (1, 12)), ABOVE, None)
        self.check_piece((0, 0), ((-1, -1), (1, -4)), ABOVE, None)
        self.check_piece((0, 0), ((6, 5), (7, 5)), ABOVE, None)
        self.check_piece((0, 0), ((-9, 1), (-2, 1)), ABOVE, None)

    def test_shade_that_reaches_an_end(self):
        self.check_piece((0, 0), ((4, 5), (9, 5)), ABOVE, ((9, 10), (1, 1)))
        self.check_piece((0, 0), ((-9, 5), (-4, 5)), ABOVE, ((0, 1), (1, 10)))

    def test_shade_that_is_one_point(self):
        self.check_piece((0, 0), ((5, 5), (9, 3)), ABOVE, END)
        self.check_piece((0, 0), ((-9, 3), (-5, 5)), ABOVE, START)

    def test_place_in_line_with_the_piece(self):
        self.check_piece((0, 0), ((1, 5), (2, 10)), ABOVE, ((3, 5), (3, 5)))
        self.check_piece((0, 0), ((1, 5), (3, 15)), ABOVE, ((3, 5), (3, 5)))
        self.check_piece((0, 0), ((2, 10), (3, 15)), ABOVE, ((3, 5), (3, 5)))
        self.check_piece((0, 0), ((3, 15), (4, 20)), ABOVE, None)
        self.check_piece((0, 0), ((-1, -5), (-2, -10)), ABOVE, None)
        self.check_piece((0, 0), ((2, 1), (4, 2)), ABOVE, None)

    def test_shade_that_is_the_whole_line(self):
        self.check_piece((0, 0), ((-5, 5), (5, 5)), ABOVE, WHOLE)
        self.check_piece((0, 0), ((-9, 1), (9, 8)), ABOVE, WHOLE)

    def test_place_on_the_piece(self):
        for piece in (((0, 0), (2, 3)), ((-2, -3), (2, 3)), ((-1, 0), (3, 0)), ((0, 0), (0, 0)), ((0, 0), (0, 99))):
            for line in (ABOVE, ACROSS, ((0, 0), (9, 0)), ((3, 0), (9, 0)), ((2, 3), (4, 6))):
                self.check_piece((0, 0), piece, line, WHOLE)

    def test_place_on_the_line(self):
        self.check_piece((0, 0), ((2, -1), (2, 1)), ACROSS, ((7, 10), (1, 1)))
        self.check_piece((0, 0), ((2, 0), (3, 0)), ACROSS, ((7, 10), (1, 1)))
        self.check_piece((0, 0), ((2, 0), (3, 4)), ACROSS, ((7, 10), (1, 1)))
        self.check_piece((0, 0), ((-3, 0), (-2, 0)), ACROSS, ((0, 1), (3, 10)))
        self.check_piece((0, 0), ((5, 0), (8, 0)), ACROSS, END)
        self.check_piece((0, 0), ((6, 0), (8, 0)), ACROSS, None)
        self.check_piece((0, 0), ((2, 1), (3, 4)), ACROSS, None)
        self.check_piece((-5, 0), ((5, 5), (5, -5)), ACROSS, END)

    def test_place_in_line_with_the_line(self):
        self.check_piece((-9, 0), ((-8, -1), (-8, 1)), ACROSS, WHOLE)
        self.check_piece((-9, 0), ((-7, 0), (-6, 0)), ACROSS, WHOLE)
        self.check_piece((-9, 0), ((0, -1), (2, 1)), ACROSS, ((3, 5), (1, 1)))
        self.check_piece((-9, 0), ((0, 0), (2, 0)), ACROSS, ((1, 2), (1, 1)))
        self.check_piece((9, 0), ((0, 0), (2, 0)), ACROSS, ((0, 1), (7, 10)))
        self.check_piece((-9, 0), ((-11, 0), (-10, 0)), ACROSS, None)
        self.check_piece((-9, 0), ((6, 0), (7, 0)), ACROSS, None)
        self.check_piece((-9, 0), ((-8, 1), (8, 2)), ACROSS, None)

    def test_piece_of_one_place_twice(self):
        for place, wanted in (
            ((1, 5), ((3, 5), (3, 5))), ((2, 10), ((3, 5), (3, 5))), ((5, 5), END), ((-10, 10), START),
            ((2, 11), None), ((1, -5), None), ((9, 5), None), ((0, 0), WHOLE),
        ):
            self.check_piece((0, 0), (place, place), ABOVE, wanted)
        self.check_piece((-9, 0), ((1, 0), (1, 0)), ACROSS, ((3, 5), (1, 1)))
        self.check_piece((0, 0), ((1, 0), (1, 0)), ACROSS, ((3, 5), (1, 1)))
        self.check_piece((0, 0), ((1, 1), (1, 1)), ACROSS, None)

    def test_grid(self):
        cases = [(place, piece, line) for place in WIDE_GRID for piece in PIECES for line in LINES]
        for place, piece, line in cases[::53]:
            wanted = plainly.told(plainly.piece_shade(place, piece, line))
            self.check_piece(place, piece, line, wanted)

    def test_all_between_are_shaded_and_no_others(self):
        cases = [(place, piece, line) for place in WIDE_GRID for piece in PIECES for line in LINES]
        for place, piece, line in cases[::211]:
            told = piece_shade(place, piece, line)
            self.check_each_share(told, plainly.piece_shares, place, piece, line)

    def test_far(self):
        met = 0
        for at, piece in enumerate(FAR_PIECES):
            for line in FAR_PIECES:
                for place in FAR_PIECES[at - 1]:
                    wanted = plainly.told(plainly.piece_shade(place, piece, line))
                    self.check_piece(place, piece, line, wanted)
                    met += wanted not in (None, WHOLE)
        self.assertGreater(met, 9)

    def test_far_by_hand(self):
        line = ((-LONG, LONG), (LONG, LONG))
        self.check_piece((0, 0), ((0, 1), (1, 1)), line, ((1, 2), (1, 1)))
        self.check_piece((0, 0), ((0, LONG), (1, LONG)), line, ((1, 2), ((LONG + 1) // 2, LONG)))
        self.check_piece((0, 0), ((LONG - 1, LONG - 1), (LONG, LONG - 1)), line, END)
        self.check_piece((0, 0), ((LONG, LONG - 1), (LONG, LONG - 2)), line, None)
        self.check_piece((-LONG, -LONG), ((0, 0), (1, 1)), line, END)

    def test_by_name(self):
        told = piece_shade(line=ABOVE, piece=((0, 4), (2, 5)), place=(0, 0))
        self.assertEqual(told, ((1, 2), (7, 10)))

    def test_asked_again(self):
        handed = ((0, 0), ((0, 4), (2, 5)), ((-10, 10), (10, 10)))
        self.assertEqual([piece_shade(*handed) for step in range(3)], [((1, 2), (7, 10))] * 3)
        self.assertEqual(handed, ((0, 0), ((0, 4), (2, 5)), ((-10, 10), (10, 10))))


class TestBlocksAndPieces(unittest.TestCase):
    def test_a_block_that_is_a_piece_shades_as_that_piece(self):
        for left, low, right, high in ((0, 1, 2, 1), (1, 0, 1, 2), (1, 1, 1, 1)):
            for place in WIDE_GRID:
                for line in LINES[::11]:
                    told = block_shade(place, (left, low, right, high), line)
                    self.assertEqual(piece_shade(place, ((left, low), (right, high)), line), told)


if __name__ == "__main__":
    unittest.main()
