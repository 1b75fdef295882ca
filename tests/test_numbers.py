"""Fractions, against Python's own ones."""

import unittest
from fractions import Fraction
from math import gcd

from hueshade.errors import Nought, ShadeError
from hueshade.numbers import FAR, fraction, fraction_text, less, middle, order, plus, times, whole_marks

LONG = 999999999999999999999999999999
OTHER_LONG = 123456789012345678901234567890
TOPS = (0, 1, -1, 2, -2, 3, 4, -6, 7, 12, -35, 100, FAR, -FAR, OTHER_LONG, -OTHER_LONG, LONG, -LONG, LONG - 1)
BOTTOMS = tuple(top for top in TOPS if top != 0)

# Fractions as callers may hand them in: lowest terms, numbers of at most 30 figures.
SOME = (
    (0, 1), (1, 1), (-1, 1), (1, 2), (-1, 2), (1, 3), (2, 3), (-2, 3), (5, 6), (-7, 4), (12, 1), (-12, 1),
    (FAR, 1), (-FAR, 3), (1, FAR), (LONG, 1), (-LONG, 1), (1, LONG), (-1, LONG), (LONG - 1, LONG), (LONG, LONG - 1),
)


class FractionCase(unittest.TestCase):
    def check(self, told, wanted, why=None):
        """Told is a fraction in lowest terms, bottom 1 and more, of the wanted worth."""
        self.assertIs(type(told), tuple, why)
        self.assertEqual([type(part) for part in told], [int, int], why)
        top, bottom = told
        self.assertGreaterEqual(bottom, 1, why)
        self.assertEqual(gcd(top, bottom), 1, why)
        self.assertEqual(told, (wanted.numerator, wanted.denominator), why)


class TestFraction(FractionCase):
    def test_far(self):
        self.assertEqual(FAR, 1000000)
        self.assertIs(type(FAR), int)

    def test_told_ones(self):
        self.assertEqual(fraction(6, 4), (3, 2))
        self.assertEqual(fraction(-6, 4), (-3, 2))
        self.assertEqual(fraction(6, -4), (-3, 2))
        self.assertEqual(fraction(-6, -4), (3, 2))
        self.assertEqual(fraction(6, 3), (2, 1))
        self.assertEqual(fraction(1, -1), (-1, 1))
        self.assertEqual(fraction(LONG, 9), (111111111111111111111111111111, 1))

    def test_nought_on_top_has_a_bottom_of_one(self):
        for bottom in BOTTOMS:
            self.assertEqual(fraction(0, bottom), (0, 1), bottom)

    def test_bottom_left_out_is_one(self):
        for top in TOPS:
            self.check(fraction(top), Fraction(top), top)
            self.assertEqual(fraction(top), (top, 1))

    def test_all_tops_over_all_bottoms(self):
        for top in TOPS:
            for bottom in BOTTOMS:
                self.check(fraction(top, bottom), Fraction(top, bottom), (top, bottom))

    def test_near_ones(self):
        for top in range(-13, 14):
            for bottom in range(-13, 14):
                if bottom != 0:
                    self.check(fraction(top, bottom), Fraction(top, bottom), (top, bottom))

    def test_bottom_of_nought_is_refused(self):
        for top in TOPS:
            with self.assertRaises(Nought) as caught:
                fraction(top, 0)
            self.assertEqual(caught.exception.word, "nought")
            self.assertIsInstance(caught.exception, ShadeError)

    def test_by_name(self):
        self.assertEqual(fraction(top=4, bottom=-6), (-2, 3))
        self.assertEqual(fraction(bottom=2, top=4), (2, 1))
        self.assertEqual(fraction(top=5), (5, 1))
        self.assertEqual(fraction(5, bottom=10), (1, 2))
        with self.assertRaises(Nought):
            fraction(top=1, bottom=0)


class TestReckoning(FractionCase):
    def check_all(self, asked, wanted):
        for one in SOME:
            for other in SOME:
                told = asked(one, other)
                self.check(told, wanted(Fraction(*one), Fraction(*other)), (one, other))
                self.assertEqual(asked(one=one, other=other), told)

    def test_plus(self):
        self.assertEqual(plus((1, 2), (1, 2)), (1, 1))
        self.assertEqual(plus((1, 2), (-1, 2)), (0, 1))
        self.assertEqual(plus((1, 6), (1, 3)), (1, 2))
        self.check_all(plus, lambda one, other: one + other)

    def test_less(self):
        self.assertEqual(less((1, 2), (1, 2)), (0, 1))
        self.assertEqual(less((1, 3), (1, 2)), (-1, 6))
        self.assertEqual(less((1, 2), (-1, 2)), (1, 1))
        self.check_all(less, lambda one, other: one - other)

    def test_times(self):
        self.assertEqual(times((2, 3), (3, 2)), (1, 1))
        self.assertEqual(times((-2, 3), (0, 1)), (0, 1))
        self.assertEqual(times((-2, 3), (-1, 2)), (1, 3))
        self.check_all(times, lambda one, other: one * other)

    def test_middle(self):
        self.assertEqual(middle((0, 1), (1, 1)), (1, 2))
        self.assertEqual(middle((1, 2), (1, 2)), (1, 2))
        self.assertEqual(middle((-1, 3), (1, 3)), (0, 1))
        self.assertEqual(middle((1, 1), (3, 1)), (2, 1))
        self.check_all(middle, lambda one, other: (one + other) / 2)

    def test_near_ones(self):
        near = sorted({Fraction(top, bottom) for top in range(-5, 6) for bottom in range(1, 6)})
        for one in near:
            for other in near:
                pairs = (one.numerator, one.denominator), (other.numerator, other.denominator)
                self.check(plus(*pairs), one + other, pairs)
                self.check(less(*pairs), one - other, pairs)
                self.check(times(*pairs), one * other, pairs)
                self.check(middle(*pairs), (one + other) / 2, pairs)
                self.assertEqual(order(*pairs), (one > other) - (one < other), pairs)


class TestOrder(unittest.TestCase):
    def test_told_ones(self):
        self.assertEqual(order((1, 3), (1, 2)), -1)
        self.assertEqual(order((1, 2), (1, 2)), 0)
        self.assertEqual(order((1, 2), (1, 3)), 1)
        self.assertEqual(order((-1, 2), (-1, 3)), -1)
        self.assertEqual(order((0, 1), (-1, LONG)), 1)
        self.assertEqual(order((LONG - 1, LONG), (1, 1)), -1)
        self.assertEqual(order((LONG - 1, LONG), (LONG - 2, LONG - 1)), 1)

    def test_all(self):
        for one in SOME:
            for other in SOME:
                worths = Fraction(*one), Fraction(*other)
                wanted = (worths[0] > worths[1]) - (worths[0] < worths[1])
                told = order(one, other)
                self.assertIs(type(told), int)
                self.assertEqual(told, wanted, (one, other))
                self.assertEqual(order(one=one, other=other), wanted, (one, other))


class TestText(unittest.TestCase):
    def test_bottom_of_one(self):
        for top in TOPS:
            self.assertEqual(fraction_text((top, 1)), str(top))
        self.assertEqual(fraction_text((0, 1)), "0")
        self.assertEqual(fraction_text((-12, 1)), "-12")

    def test_other_bottoms(self):
        self.assertEqual(fraction_text((1, 2)), "1/2")
        self.assertEqual(fraction_text((-3, 10)), "-3/10")
        self.assertEqual(fraction_text((1, 11)), "1/11")
        self.assertEqual(fraction_text((LONG - 1, LONG)), f"{LONG - 1}/{LONG}")

    def test_by_name(self):
        self.assertEqual(fraction_text(one=(5, 7)), "5/7")

    def test_of_what_fraction_tells(self):
        for top in TOPS:
            for bottom in BOTTOMS:
                self.assertEqual(fraction_text(fraction(top, bottom)), str(Fraction(top, bottom)))


class TestAskedAgain(unittest.TestCase):
    def test_the_same_is_told(self):
        for ask in (plus, less, times, middle, order):
            self.assertEqual(ask((5, 6), (-7, 4)), ask((5, 6), (-7, 4)))


class TestWholeMarks(unittest.TestCase):
    def test_they_stand_as_the_fractions_do(self):
        marks = whole_marks(list(SOME))
        for one, one_mark in zip(SOME, marks):
            self.assertIs(type(one_mark), int)
            for other, other_mark in zip(SOME, marks):
                worth, other_worth = Fraction(*one), Fraction(*other)
                self.assertEqual(one_mark < other_mark, worth < other_worth, (one, other))
                self.assertEqual(one_mark == other_mark, worth == other_worth, (one, other))

    def test_fractions_that_are_hardly_unlike(self):
        near = [(LONG - 1, LONG), (LONG - 2, LONG - 1), (LONG - 3, LONG - 2)]
        marks = whole_marks(near)
        self.assertEqual(sorted(marks, reverse=True), marks)
        self.assertEqual(len(set(marks)), 3)

    def test_of_none_and_of_like_ones(self):
        self.assertEqual(whole_marks([]), [])
        one, other = whole_marks([(1, 3), (1, 3)])
        self.assertEqual(one, other)


if __name__ == "__main__":
    unittest.main()
