"""Sides of straight ways, and where pieces and blocks meet."""

import unittest
from math import gcd

import plainly

from hueshade.figures import block_meets, block_shares, on_piece, piece_shares, pieces_meet, side

LONG = 999999999999999999999999999999
GRID = [(across, up) for across in range(3) for up in range(3)]
WIDE_GRID = [(across, up) for across in range(-1, 4) for up in range(-1, 4)]
GRID_PIECES = [(one, other) for one in GRID for other in GRID]
GRID_BLOCKS = [
    (left, low, right, high)
    for left in range(3) for low in range(3) for right in range(left, 3) for high in range(low, 3)
]
# Numbers of 30 figures and less without a pattern that could hide a fault, on both sides of nought.
FAR_NUMBERS = [pow(7, step, 10 ** 30) * (-1) ** (step // 3) for step in range(60, 100)]
FAR_PIECES = [tuple(zip(FAR_NUMBERS[at::20], FAR_NUMBERS[at + 7::20])) for at in range(13)]
FAR_BLOCKS = [
    (min(one[0], other[0]), min(one[1], other[1]), max(one[0], other[0]), max(one[1], other[1]))
    for one, other in FAR_PIECES
]

WHOLE = ((0, 1), (1, 1))
START = ((0, 1), (0, 1))
END = ((1, 1), (1, 1))


def turned(piece):
    return (piece[1], piece[0])


def turned_shares(shares):
    """The same shares of the piece the other way about."""
    if shares is None:
        return None
    (least, bottom), (greatest, other_bottom) = shares
    return ((other_bottom - greatest, other_bottom), (bottom - least, bottom))


class FigureCase(unittest.TestCase):
    def assert_shares(self, told, wanted, why=None):
        self.assertEqual(told, wanted, why)
        if told is None:
            return
        self.assertEqual([type(told), type(told[0]), type(told[1])], [tuple] * 3, why)
        for top, bottom in told:
            self.assertEqual([type(top), type(bottom)], [int, int], why)
            self.assertGreaterEqual(bottom, 1, why)
            self.assertEqual(gcd(top, bottom), 1, why)
            self.assertTrue(0 <= top <= bottom, why)
        self.assertLessEqual(told[0][0] * told[1][1], told[1][0] * told[0][1], why)

    def check_pieces(self, other, piece, wanted):
        """Both questions, with the ends of both pieces in all orders."""
        for first in (other, turned(other)):
            for second, shares in ((piece, wanted), (turned(piece), turned_shares(wanted))):
                if piece[0] == piece[1]:
                    shares = wanted
                why = (first, second)
                self.assert_shares(piece_shares(first, second), shares, why)
                self.assertIs(pieces_meet(first, second), wanted is not None, why)
                self.assertIs(pieces_meet(second, first), wanted is not None, why)
                self.assertIs(piece_shares(second, first) is None, wanted is None, why)

    def check_block(self, block, piece, wanted):
        for way, shares in ((piece, wanted), (turned(piece), turned_shares(wanted))):
            if piece[0] == piece[1]:
                shares = wanted
            self.assert_shares(block_shares(block, way), shares, (block, way))
            self.assertIs(block_meets(block, way), wanted is not None, (block, way))


class TestSide(unittest.TestCase):
    def check(self, one, other, place, wanted):
        told = side(one, other, place)
        self.assertIs(type(told), int)
        self.assertEqual(told, wanted, (one, other, place))
        self.assertEqual(side(other, one, place), -wanted, (one, other, place))

    def test_left_and_right(self):
        self.check((0, 0), (5, 0), (2, 1), 1)
        self.check((0, 0), (5, 0), (2, -1), -1)
        self.check((0, 0), (0, 5), (-1, 2), 1)
        self.check((0, 0), (0, 5), (1, 2), -1)
        self.check((1, 1), (4, 3), (4, 4), 1)
        self.check((1, 1), (4, 3), (4, 2), -1)

    def test_beyond_the_ends_too(self):
        self.check((0, 0), (5, 0), (99, 1), 1)
        self.check((0, 0), (5, 0), (-99, -1), -1)

    def test_on_the_straight_line(self):
        for across in (-4, -1, 0, 1, 2, 6, 9):
            self.check((0, 0), (6, 4), (3 * across, 2 * across), 0)
        self.check((2, -3), (2, 8), (2, 100), 0)
        self.check((2, -3), (9, -3), (-5, -3), 0)

    def test_places_alike(self):
        for one in WIDE_GRID:
            self.check(one, one, one, 0)
            for other in WIDE_GRID:
                self.check(one, one, other, 0)
                self.check(one, other, one, 0)
                self.check(one, other, other, 0)

    def test_turning_the_three_about_tells_the_same(self):
        for one in GRID:
            for other in GRID:
                for place in GRID:
                    told = side(one, other, place)
                    self.assertEqual(side(other, place, one), told)
                    self.assertEqual(side(place, one, other), told)

    def test_far_places(self):
        self.check((-LONG, -LONG), (LONG, LONG), (0, 0), 0)
        self.check((-LONG, -LONG), (LONG, LONG), (0, 1), 1)
        self.check((-LONG, -LONG), (LONG, LONG), (1, 0), -1)
        self.check((-LONG, -LONG), (LONG, LONG - 1), (LONG - 1, LONG - 2), -1)
        self.check((-LONG, -LONG), (LONG, LONG - 1), (LONG - 1, LONG - 1), 1)
        self.check((0, 0), (LONG, LONG - 1), (LONG - 1, LONG - 2), -1)
        self.check((LONG, LONG), (LONG, LONG), (-LONG, 5), 0)

    def test_by_name(self):
        self.assertEqual(side(place=(0, 1), other=(1, 0), one=(0, 0)), 1)


class TestOnPiece(unittest.TestCase):
    def check(self, place, piece, wanted):
        self.assertIs(on_piece(place, piece), wanted, (place, piece))
        self.assertIs(on_piece(place, turned(piece)), wanted, (place, piece))

    def test_slanting(self):
        piece = ((0, 0), (6, 4))
        for place in ((0, 0), (6, 4), (3, 2)):
            self.check(place, piece, True)
        for place in ((9, 6), (-3, -2), (12, 8)):
            self.check(place, piece, False)
        for place in ((3, 3), (3, 1), (2, 2), (1, 1), (0, 4), (6, 0), (0, 1), (6, 3)):
            self.check(place, piece, False)

    def test_straight_across_and_up(self):
        for place, wanted in (((2, 5), True), ((4, 5), True), ((3, 5), True), ((1, 5), False), ((5, 5), False)):
            self.check(place, ((2, 5), (4, 5)), wanted)
            self.check(place[::-1], ((5, 2), (5, 4)), wanted)
        self.check((3, 4), ((2, 5), (4, 5)), False)
        self.check((3, 6), ((2, 5), (4, 5)), False)
        self.check((4, 3), ((5, 2), (5, 4)), False)
        self.check((6, 3), ((5, 2), (5, 4)), False)

    def test_of_one_place_twice(self):
        for place in WIDE_GRID:
            self.check(place, ((1, 2), (1, 2)), place == (1, 2))

    def test_far(self):
        piece = ((-LONG, -LONG), (LONG, LONG))
        for number in (-LONG, 1 - LONG, 0, 5, LONG - 1, LONG):
            self.check((number, number), piece, True)
        self.check((LONG + 1, LONG + 1), piece, False)
        self.check((LONG - 1, LONG), piece, False)
        self.check((0, 1), piece, False)
        self.check((LONG - 1, LONG - 2), ((0, 0), (LONG, LONG - 1)), False)

    def test_grid(self):
        for piece in GRID_PIECES:
            for place in WIDE_GRID:
                self.check(place, piece, plainly.piece_shares((place, place), piece) is not None)

    def test_by_name(self):
        self.assertIs(on_piece(piece=((0, 0), (2, 2)), place=(1, 1)), True)


class TestPieces(FigureCase):
    def test_crossing(self):
        self.check_pieces(((0, 4), (4, 0)), ((0, 0), (4, 4)), ((1, 2), (1, 2)))
        self.check_pieces(((1, -1), (1, 5)), ((0, 0), (4, 0)), ((1, 4), (1, 4)))
        self.check_pieces(((0, 1), (5, 1)), ((1, 0), (2, 3)), ((1, 3), (1, 3)))
        self.check_pieces(((0, 0), (3, 1)), ((0, 1), (7, 0)), ((3, 10), (3, 10)))

    def test_touching_at_an_end(self):
        self.check_pieces(((0, 0), (2, 5)), ((0, 0), (4, 4)), START)
        self.check_pieces(((4, 4), (2, 5)), ((0, 0), (4, 4)), END)
        self.check_pieces(((1, 1), (2, 5)), ((0, 0), (4, 4)), ((1, 4), (1, 4)))
        self.check_pieces(((-1, 1), (1, -1)), ((0, 0), (4, 4)), START)
        self.check_pieces(((3, 5), (5, 3)), ((0, 0), (4, 4)), END)

    def test_just_not_touching(self):
        self.check_pieces(((2, 1), (2, 5)), ((0, 0), (4, 0)), None)
        self.check_pieces(((5, 0), (5, 3)), ((0, 0), (4, 0)), None)
        self.check_pieces(((3, 6), (6, 3)), ((0, 0), (4, 4)), None)
        self.check_pieces(((2, 3), (0, 9)), ((0, 0), (4, 4)), None)
        self.check_pieces(((0, 1), (3, 4)), ((0, 0), (4, 4)), None)

    def test_boxes_that_meet_do_not_suffice(self):
        self.check_pieces(((3, 0), (4, 3)), ((0, 0), (4, 4)), None)
        self.check_pieces(((0, 0), (4, 4)), ((3, 0), (4, 3)), None)

    def test_on_one_line_with_a_stretch_in_common(self):
        piece = ((0, 0), (6, 3))
        self.check_pieces(((2, 1), (4, 2)), piece, ((1, 3), (2, 3)))
        self.check_pieces(((-2, -1), (4, 2)), piece, ((0, 1), (2, 3)))
        self.check_pieces(((2, 1), (8, 4)), piece, ((1, 3), (1, 1)))
        self.check_pieces(((-2, -1), (8, 4)), piece, WHOLE)
        self.check_pieces(piece, piece, WHOLE)
        self.check_pieces(((0, 0), (2, 1)), piece, ((0, 1), (1, 3)))
        self.check_pieces(((7, 1), (7, 4)), ((7, 0), (7, 5)), ((1, 5), (4, 5)))
        self.check_pieces(((1, 7), (4, 7)), ((0, 7), (5, 7)), ((1, 5), (4, 5)))

    def test_on_one_line_with_one_point_in_common(self):
        self.check_pieces(((6, 3), (8, 4)), ((0, 0), (6, 3)), END)
        self.check_pieces(((-2, -1), (0, 0)), ((0, 0), (6, 3)), START)
        self.check_pieces(((7, 5), (7, 9)), ((7, 0), (7, 5)), END)
        self.check_pieces(((-4, 7), (0, 7)), ((0, 7), (5, 7)), START)

    def test_on_one_line_with_none_in_common(self):
        self.check_pieces(((8, 4), (10, 5)), ((0, 0), (6, 3)), None)
        self.check_pieces(((7, 6), (7, 9)), ((7, 0), (7, 5)), None)
        self.check_pieces(((-4, 7), (-1, 7)), ((0, 7), (5, 7)), None)

    def test_side_by_side(self):
        self.check_pieces(((0, 1), (5, 1)), ((0, 0), (5, 0)), None)
        self.check_pieces(((1, 0), (7, 3)), ((0, 0), (6, 3)), None)

    def test_other_of_one_place_twice(self):
        piece = ((0, 0), (6, 3))
        for place, wanted in (
            ((0, 0), START), ((6, 3), END), ((2, 1), ((1, 3), (1, 3))), ((8, 4), None), ((-2, -1), None),
            ((2, 2), None), ((3, 1), None), ((6, 0), None),
        ):
            self.check_pieces((place, place), piece, wanted)

    def test_piece_of_one_place_twice(self):
        other = ((0, 0), (6, 3))
        for place, wanted in (
            ((0, 0), START), ((6, 3), START), ((2, 1), START), ((8, 4), None), ((2, 2), None), ((6, 0), None),
        ):
            self.check_pieces(other, (place, place), wanted)

    def test_both_of_one_place_twice(self):
        for place in GRID:
            for other in GRID:
                self.check_pieces((other, other), (place, place), START if place == other else None)

    def test_grid(self):
        for other in GRID_PIECES:
            for piece in GRID_PIECES:
                wanted = plainly.told(plainly.piece_shares(other, piece))
                self.assert_shares(piece_shares(other, piece), wanted, (other, piece))
                self.assertIs(pieces_meet(other, piece), wanted is not None, (other, piece))

    def test_far(self):
        met = 0
        for other in FAR_PIECES:
            for piece in FAR_PIECES:
                wanted = plainly.told(plainly.piece_shares(other, piece))
                self.check_pieces(other, piece, wanted)
                met += wanted not in (None, WHOLE)
        self.assertGreater(met, 9)

    def test_far_by_hand(self):
        half = (LONG - 1) // 2
        self.check_pieces(((0, LONG), (LONG, 0)), ((0, 0), (LONG, LONG)), ((1, 2), (1, 2)))
        self.check_pieces(((1, -LONG), (1, LONG)), ((0, 0), (LONG, LONG)), ((1, LONG), (1, LONG)))
        self.check_pieces(((1, 1), (half, half)), ((0, 0), (LONG, LONG)), ((1, LONG), (half, LONG)))
        self.check_pieces(((0, 1), (LONG - 1, LONG)), ((0, 0), (LONG, LONG)), None)
        self.check_pieces(((LONG, LONG), (LONG, -LONG)), ((-LONG, LONG), (LONG, LONG)), END)
        # Two lines that part by less than one in all their length.
        self.check_pieces(((0, 0), (LONG, LONG - 1)), ((1, 1), (LONG, LONG)), None)
        self.check_pieces(((0, 0), (LONG, LONG - 1)), ((1, 0), (LONG, LONG)), ((LONG - 1, 2 * LONG - 1),) * 2)

    def test_by_name(self):
        self.assertEqual(piece_shares(piece=((0, 0), (4, 0)), other=((1, 0), (1, 1))), ((1, 4), (1, 4)))
        self.assertEqual(piece_shares(other=((0, 0), (4, 0)), piece=((1, 0), (1, 1))), START)
        self.assertIs(pieces_meet(other=((0, 0), (4, 0)), one=((1, 0), (1, 1))), True)

    def test_asked_again(self):
        other, piece = ((0, 1), (5, 1)), ((1, 0), (2, 3))
        self.assertEqual([piece_shares(other, piece) for step in range(3)], [((1, 3), (1, 3))] * 3)
        self.assertEqual((other, piece), (((0, 1), (5, 1)), ((1, 0), (2, 3))))


class TestBlocks(FigureCase):
    def test_through(self):
        block = (2, 2, 4, 4)
        self.check_block(block, ((0, 3), (8, 3)), ((1, 4), (1, 2)))
        self.check_block(block, ((3, 0), (3, 8)), ((1, 4), (1, 2)))
        self.check_block(block, ((0, 0), (6, 6)), ((1, 3), (2, 3)))
        self.check_block(block, ((0, 2), (9, 5)), ((2, 9), (4, 9)))
        self.check_block(block, ((1, 4), (4, 1)), ((1, 3), (2, 3)))

    def test_reaching_in(self):
        self.check_block((2, 2, 4, 4), ((0, 3), (3, 3)), ((2, 3), (1, 1)))
        self.check_block((2, 2, 4, 4), ((0, 3), (4, 3)), ((1, 2), (1, 1)))
        self.check_block((2, 2, 4, 4), ((0, 3), (2, 3)), END)
        self.check_block((2, 2, 4, 4), ((0, 3), (1, 3)), None)

    def test_along_an_edge(self):
        block = (2, 2, 4, 5)
        self.check_block(block, ((0, 2), (8, 2)), ((1, 4), (1, 2)))
        self.check_block(block, ((0, 5), (8, 5)), ((1, 4), (1, 2)))
        self.check_block(block, ((2, 0), (2, 8)), ((1, 4), (5, 8)))
        self.check_block(block, ((4, 0), (4, 8)), ((1, 4), (5, 8)))
        self.check_block(block, ((2, 2), (4, 2)), WHOLE)
        self.check_block(block, ((0, 1), (8, 1)), None)
        self.check_block(block, ((5, 0), (5, 8)), None)

    def test_at_a_corner_alone(self):
        block = (2, 2, 4, 4)
        self.check_block(block, ((0, 4), (4, 0)), ((1, 2), (1, 2)))
        self.check_block(block, ((3, 5), (5, 3)), ((1, 2), (1, 2)))
        self.check_block(block, ((1, 3), (4, 6)), ((1, 3), (1, 3)))
        self.check_block(block, ((2, 0), (8, 6)), ((1, 3), (1, 3)))
        self.check_block(block, ((4, 4), (9, 9)), START)
        self.check_block(block, ((2, 4), (0, 9)), START)

    def test_just_past_a_corner(self):
        block = (20, 20, 40, 40)
        self.check_block(block, ((0, 39), (39, 0)), None)
        self.check_block(block, ((30, 51), (51, 30)), None)
        self.check_block(block, ((10, 31), (40, 61)), None)
        self.check_block(block, ((21, 0), (81, 60)), None)

    def test_within(self):
        self.check_block((0, 0, 9, 9), ((1, 2), (5, 7)), WHOLE)
        self.check_block((0, 0, 9, 9), ((0, 0), (9, 9)), WHOLE)

    def test_beside(self):
        block = (2, 2, 4, 4)
        for piece in (
            ((0, 0), (0, 9)), ((6, 0), (6, 9)), ((0, 0), (9, 0)), ((0, 9), (9, 9)), ((0, 1), (9, 1)), ((1, 0), (1, 9)),
        ):
            self.check_block(block, piece, None)

    def test_blocks_that_are_a_piece(self):
        self.check_block((2, 3, 4, 3), ((0, 0), (6, 6)), ((1, 2), (1, 2)))
        self.check_block((2, 3, 4, 3), ((0, 3), (8, 3)), ((1, 4), (1, 2)))
        self.check_block((2, 3, 4, 3), ((0, 2), (8, 2)), None)
        self.check_block((2, 3, 4, 3), ((0, 0), (1, 9)), None)
        self.check_block((3, 2, 3, 4), ((0, 0), (6, 6)), ((1, 2), (1, 2)))
        self.check_block((3, 2, 3, 4), ((3, 0), (3, 8)), ((1, 4), (1, 2)))
        self.check_block((3, 2, 3, 4), ((3, 4), (5, 4)), START)
        self.check_block((3, 2, 3, 4), ((0, 0), (6, 1)), None)

    def test_blocks_that_are_a_point(self):
        self.check_block((2, 1, 2, 1), ((0, 0), (6, 3)), ((1, 3), (1, 3)))
        self.check_block((2, 1, 2, 1), ((2, 1), (6, 3)), START)
        self.check_block((2, 1, 2, 1), ((4, 2), (6, 3)), None)
        self.check_block((2, 2, 2, 2), ((0, 0), (6, 3)), None)
        self.check_block((2, 1, 2, 1), ((2, 1), (2, 1)), START)
        self.check_block((2, 1, 2, 1), ((2, 2), (2, 2)), None)

    def test_pieces_of_one_place_twice(self):
        for place in WIDE_GRID:
            inside = 0 <= place[0] <= 2 and 0 <= place[1] <= 1
            self.check_block((0, 0, 2, 1), (place, place), START if inside else None)

    def test_grid(self):
        for block in GRID_BLOCKS:
            for one in WIDE_GRID:
                for other in WIDE_GRID:
                    wanted = plainly.told(plainly.block_shares(block, (one, other)))
                    self.assert_shares(block_shares(block, (one, other)), wanted, (block, one, other))
                    self.assertIs(block_meets(block, (one, other)), wanted is not None, (block, one, other))

    def test_far(self):
        met = 0
        for block in FAR_BLOCKS:
            for piece in FAR_PIECES:
                wanted = plainly.told(plainly.block_shares(block, piece))
                self.check_block(block, piece, wanted)
                met += wanted not in (None, WHOLE)
        self.assertGreater(met, 9)

    def test_far_by_hand(self):
        across = ((-LONG, -LONG), (LONG, LONG))
        self.check_block((0, 0, 1, 1), across, ((1, 2), ((LONG + 1) // 2, LONG)))
        self.check_block((-LONG, -LONG, LONG, LONG), across, WHOLE)
        self.check_block((0, 1, 0, LONG), across, None)
        self.check_block((0, 0, 0, LONG), across, ((1, 2), (1, 2)))
        self.check_block((LONG, -LONG, LONG, LONG), across, END)

    def test_by_name(self):
        self.assertEqual(block_shares(piece=((0, 0), (4, 0)), block=(1, 0, 2, 0)), ((1, 4), (1, 2)))
        self.assertIs(block_meets(piece=((0, 0), (4, 0)), block=(1, 0, 2, 0)), True)

    def test_asked_again(self):
        block, piece = (2, 2, 4, 4), ((0, 0), (6, 6))
        self.assertEqual([block_shares(block, piece) for step in range(3)], [((1, 3), (2, 3))] * 3)
        self.assertEqual((block, piece), ((2, 2, 4, 4), ((0, 0), (6, 6))))


class TestBlocksAndPieces(FigureCase):
    def test_a_block_that_is_a_piece_is_met_as_that_piece(self):
        for block in GRID_BLOCKS:
            left, low, right, high = block
            if left == right or low == high:
                for piece in GRID_PIECES:
                    same = ((left, low), (right, high))
                    self.assertEqual(block_shares(block, piece), piece_shares(same, piece), (block, piece))


if __name__ == "__main__":
    unittest.main()
