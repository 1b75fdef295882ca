"""Lights and sifts."""

import unittest

from hueshade.errors import BadSift, ShadeError
from hueshade.lights import BRIGHT, DARK, SIFTS, both_sifts, sifted, summed

LONG = 999999999999999999999999999999
NO_SIFTS = (
    "gr", "rr", "x", "bgr", "br", "bg", "gbr", "grb", "brg", "rbg", "rgbr", "rrgb", "rgbx", "R", "RGB", " ", "r ",
    " r", "r g", "rgb\n", "-", "red", "gg", "bb", "0", "rg,",
)
LIGHTS = ((0, 0, 0), (1, 2, 3), (9, 9, 9), (5, 0, 0), (0, 7, 0), (0, 0, 8), (BRIGHT, BRIGHT, BRIGHT), (LONG, 1, LONG))

# Written out, so that a wrong SIFTS does not hide a wrong answer.
SEEN_OF_4_5_6 = {
    "": (0, 0, 0), "r": (4, 0, 0), "g": (0, 5, 0), "b": (0, 0, 6),
    "rg": (4, 5, 0), "rb": (4, 0, 6), "gb": (0, 5, 6), "rgb": (4, 5, 6),
}


def assert_light(case, told, wanted):
    case.assertIs(type(told), tuple)
    case.assertEqual([type(part) for part in told], [int, int, int])
    case.assertEqual(told, wanted)


class TestNames(unittest.TestCase):
    def test_values(self):
        self.assertEqual(BRIGHT, 1000000)
        self.assertEqual(SIFTS, ("", "r", "g", "b", "rg", "rb", "gb", "rgb"))
        self.assertEqual(DARK, (0, 0, 0))
        self.assertEqual([type(BRIGHT), type(SIFTS), type(DARK)], [int, tuple, tuple])


class TestSifted(unittest.TestCase):
    def test_each_sift(self):
        for sift, wanted in SEEN_OF_4_5_6.items():
            assert_light(self, sifted((4, 5, 6), sift), wanted)

    def test_each_light(self):
        for light in LIGHTS:
            for sift in SIFTS:
                wanted = tuple(part if letter in sift else 0 for part, letter in zip(light, "rgb"))
                assert_light(self, sifted(light, sift), wanted)

    def test_sums_brighter_than_a_lamp_are_sifted_too(self):
        assert_light(self, sifted((12 * BRIGHT, LONG, 24 * BRIGHT), "gb"), (0, LONG, 24 * BRIGHT))

    def test_no_sift_is_refused(self):
        for sift in NO_SIFTS:
            with self.assertRaises(BadSift, msg=sift) as caught:
                sifted((4, 5, 6), sift)
            self.assertEqual(caught.exception.word, "badsift")
            self.assertIsInstance(caught.exception, ShadeError)

    def test_no_sift_is_refused_of_a_dark_light_too(self):
        with self.assertRaises(BadSift):
            sifted(DARK, "gr")

    def test_by_name(self):
        self.assertEqual(sifted(sift="rb", light=(1, 2, 3)), (1, 0, 3))


class TestSummed(unittest.TestCase):
    def test_of_none(self):
        assert_light(self, summed([]), (0, 0, 0))
        assert_light(self, summed(()), (0, 0, 0))

    def test_of_one(self):
        for light in LIGHTS:
            assert_light(self, summed([light]), light)

    def test_of_several(self):
        assert_light(self, summed([(1, 2, 3), (10, 20, 30)]), (11, 22, 33))
        assert_light(self, summed([(1, 0, 0), (0, 1, 0), (0, 0, 1), (1, 1, 1)]), (2, 2, 2))

    def test_the_same_light_twice_counts_twice(self):
        assert_light(self, summed([(1, 2, 3), (1, 2, 3)]), (2, 4, 6))

    def test_far_ones(self):
        assert_light(self, summed([(BRIGHT, BRIGHT, BRIGHT)] * 12), (12 * BRIGHT, 12 * BRIGHT, 12 * BRIGHT))
        assert_light(self, summed([(LONG, 0, 1)] * 60), (60 * LONG, 0, 60))

    def test_a_tuple_may_stand_for_the_list(self):
        assert_light(self, summed(((1, 2, 3), (4, 5, 6))), (5, 7, 9))

    def test_handed_list_stays(self):
        for count in range(4):
            lights = [(number, 2, 3) for number in range(count)]
            kept = list(lights)
            summed(lights)
            self.assertEqual(lights, kept)

    def test_later_change_of_the_list_changes_nothing(self):
        lights = [(1, 2, 3)]
        told = summed(lights)
        lights.append((5, 5, 5))
        self.assertEqual(told, (1, 2, 3))
        self.assertEqual(summed(lights), (6, 7, 8))
        self.assertEqual(DARK, (0, 0, 0))

    def test_by_name(self):
        self.assertEqual(summed(lights=[(1, 2, 3), (1, 1, 1)]), (2, 3, 4))


class TestBothSifts(unittest.TestCase):
    def test_told_ones(self):
        self.assertEqual(both_sifts("rg", "gb"), "g")
        self.assertEqual(both_sifts("r", "b"), "")
        self.assertEqual(both_sifts("rgb", "rb"), "rb")
        self.assertEqual(both_sifts("gb", "rgb"), "gb")
        self.assertEqual(both_sifts("rgb", "rgb"), "rgb")
        self.assertEqual(both_sifts("", "rgb"), "")
        self.assertEqual(both_sifts("rgb", ""), "")
        self.assertEqual(both_sifts("", ""), "")

    def test_it_does_both(self):
        for one in SIFTS:
            for other in SIFTS:
                told = both_sifts(one, other)
                self.assertIn(told, SIFTS)
                self.assertIs(type(told), str)
                self.assertEqual(told, both_sifts(other, one))
                for light in LIGHTS:
                    self.assertEqual(sifted(light, told), sifted(sifted(light, one), other))

    def test_no_sift_is_refused_in_each_argument(self):
        for wrong in NO_SIFTS:
            for sift in SIFTS:
                with self.assertRaises(BadSift, msg=wrong):
                    both_sifts(wrong, sift)
                with self.assertRaises(BadSift, msg=wrong):
                    both_sifts(sift, wrong)
            with self.assertRaises(BadSift, msg=wrong):
                both_sifts(wrong, wrong)

    def test_by_name(self):
        self.assertEqual(both_sifts(other="rg", one="gb"), "g")
        with self.assertRaises(BadSift):
            both_sifts(one="r", other="gr")


if __name__ == "__main__":
    unittest.main()
