"""Rows of numbers below counts, and their places."""

import unittest
from itertools import product

from hueshade.errors import BadSetting, Crowded, ShadeError, TooMany
from hueshade.menus import MOST_SETTINGS, all_rows, how_many, row_at, row_number

LONG = 999999999999999999999999999999
COUNTS = (
    [], [1], [2], [6], [1, 1, 1], [2, 3], [3, 2], [2, 1, 3], [1, 4], [4, 1], [6, 6, 5], [2, 2, 2, 2, 2, 2, 2], [200],
    [1] * 60,
)


class MenuCase(unittest.TestCase):
    def assert_refused(self, refusal, word, ask, *handed, **named):
        with self.assertRaises(refusal, msg=(handed, named)) as caught:
            ask(*handed, **named)
        self.assertEqual(caught.exception.word, word)

    def assert_row(self, told, wanted):
        self.assertIs(type(told), tuple)
        self.assertEqual([type(number) for number in told], [int] * len(wanted))
        self.assertEqual(told, wanted)


class TestHowMany(MenuCase):
    def test_most_settings(self):
        self.assertEqual(MOST_SETTINGS, 200)
        self.assertIs(type(MOST_SETTINGS), int)

    def test_told_ones(self):
        for counts, wanted in (([], 1), ([1], 1), ([7], 7), ([2, 3], 6), ([6, 6, 6], 216), ([1] * 60, 1)):
            self.assertIs(type(how_many(counts)), int)
            self.assertEqual(how_many(counts), wanted)

    def test_far_ones(self):
        self.assertEqual(how_many([LONG]), LONG)
        self.assertEqual(how_many([LONG] * 60), LONG ** 60)
        self.assertEqual(how_many([2] * 60), 2 ** 60)

    def test_a_tuple_may_stand_for_the_list(self):
        self.assertEqual(how_many((2, 3, 4)), 24)

    def test_by_name(self):
        self.assertEqual(how_many(counts=[2, 5]), 10)


class TestAllRows(MenuCase):
    def test_of_no_counts(self):
        self.assertEqual(all_rows([]), [()])
        self.assertEqual(all_rows((), most=1), [()])
        self.assert_refused(TooMany, "toomany", all_rows, [], most=0)

    def test_order(self):
        self.assertEqual(all_rows([3]), [(0,), (1,), (2,)])
        self.assertEqual(all_rows([2, 3]), [(0, 0), (0, 1), (0, 2), (1, 0), (1, 1), (1, 2)])
        self.assertEqual(all_rows([2, 1, 2]), [(0, 0, 0), (0, 0, 1), (1, 0, 0), (1, 0, 1)])

    def test_all(self):
        for counts in COUNTS:
            told = all_rows(counts)
            self.assertIs(type(told), list)
            for row in told:
                self.assert_row(row, tuple(row))
            self.assertEqual(told, list(product(*[range(count) for count in counts])))
            self.assertEqual(told, sorted(told))
            self.assertEqual(len(told), how_many(counts))

    def test_at_the_bound_and_beyond_without_one_handed(self):
        self.assertEqual(len(all_rows([200])), 200)
        self.assertEqual(len(all_rows([2, 5, 5, 4])), 200)
        self.assert_refused(TooMany, "toomany", all_rows, [201])
        self.assert_refused(TooMany, "toomany", all_rows, [3, 67])
        self.assert_refused(Crowded, "toomany", all_rows, [6, 6, 6])

    def test_at_the_bound_and_beyond_with_one_handed(self):
        for counts in COUNTS:
            many = how_many(counts)
            self.assertEqual(all_rows(counts, most=many), all_rows(counts))
            self.assertEqual(all_rows(counts, most=many + 1), all_rows(counts))
            self.assert_refused(TooMany, "toomany", all_rows, counts, most=many - 1)
        self.assertEqual(len(all_rows([201], most=201)), 201)
        self.assertEqual(len(all_rows([6, 6, 6], most=LONG)), 216)

    def test_bounds_of_nought_and_below(self):
        for most in (0, -1, -LONG):
            self.assert_refused(TooMany, "toomany", all_rows, [1], most=most)

    def test_far_counts_are_refused(self):
        self.assert_refused(TooMany, "toomany", all_rows, [LONG] * 60)
        self.assert_refused(TooMany, "toomany", all_rows, [2] * 60, most=2 ** 60 - 1)

    def test_handed_list_stays_and_told_lists_are_new(self):
        for counts in COUNTS:
            handed = list(counts)
            told = all_rows(handed)
            self.assertEqual(handed, counts)
            kept = list(told)
            told.append("more")
            self.assertEqual(all_rows(handed), kept)
            self.assertIsNot(all_rows(handed), all_rows(handed))
            handed.append(2)
            self.assertEqual(told, kept + ["more"])

    def test_a_refused_list_stays(self):
        handed = [6, 6, 6]
        self.assert_refused(TooMany, "toomany", all_rows, handed)
        self.assertEqual(handed, [6, 6, 6])

    def test_most_is_handed_by_its_name_alone(self):
        self.assertEqual(all_rows(most=2, counts=[2]), [(0,), (1,)])
        with self.assertRaises(TypeError):
            all_rows([2], 2)


class TestRowNumber(MenuCase):
    def test_told_ones(self):
        self.assertEqual(row_number([], ()), 0)
        self.assertEqual(row_number([5], (3,)), 3)
        self.assertEqual(row_number([2, 3], (1, 0)), 3)
        self.assertEqual(row_number([2, 3], (0, 2)), 2)
        self.assertEqual(row_number([3, 2], (1, 1)), 3)
        self.assertEqual(row_number([2, 3, 4], (1, 2, 3)), 23)

    def test_place_in_all_rows(self):
        for counts in COUNTS:
            for place, row in enumerate(all_rows(counts)):
                told = row_number(counts, row)
                self.assertIs(type(told), int)
                self.assertEqual(told, place)

    def test_rows_of_another_length_are_refused(self):
        for counts, row in (
            ([], (0,)), ([2], ()), ([2], (0, 0)), ([2, 3], (0,)), ([2, 3], (0, 0, 0)), ([1, 1], (0, 0, 0)),
            ([1] * 60, (0,) * 59),
        ):
            self.assert_refused(BadSetting, "badsetting", row_number, counts, row)

    def test_numbers_below_nought_and_beyond_are_refused(self):
        for counts, row in (
            ([2], (-1,)), ([2], (2,)), ([2], (LONG,)), ([2], (-LONG,)), ([1], (1,)), ([2, 3], (2, 0)), ([2, 3], (0, 3)),
            ([2, 3], (0, -1)), ([2, 3], (-1, 2)), ([2, 3, 4], (0, 3, 0)), ([2, 3, 4], (1, -1, 3)), ([3, 2], (0, 2)),
        ):
            self.assert_refused(BadSetting, "badsetting", row_number, counts, row)
        self.assertTrue(issubclass(BadSetting, ShadeError))

    def test_far_ones(self):
        self.assertEqual(row_number([LONG, LONG], (LONG - 1, LONG - 1)), LONG ** 2 - 1)
        self.assertEqual(row_number([LONG] * 60, (LONG - 1,) * 60), LONG ** 60 - 1)

    def test_handed_list_stays(self):
        for counts in COUNTS:
            handed = list(counts)
            row_number(handed, (0,) * len(handed))
            self.assertEqual(handed, counts)

    def test_by_name_and_with_a_tuple(self):
        self.assertEqual(row_number(row=(1, 2), counts=[2, 3]), 5)
        self.assertEqual(row_number((2, 3), (1, 2)), 5)


class TestRowAt(MenuCase):
    def test_told_ones(self):
        self.assert_row(row_at([], 0), ())
        self.assert_row(row_at([5], 3), (3,))
        self.assert_row(row_at([2, 3], 3), (1, 0))
        self.assert_row(row_at([3, 2], 3), (1, 1))
        self.assert_row(row_at([2, 3, 4], 23), (1, 2, 3))
        self.assert_row(row_at([2, 3, 4], 0), (0, 0, 0))

    def test_there_and_back(self):
        for counts in COUNTS:
            for place, row in enumerate(all_rows(counts)):
                self.assert_row(row_at(counts, place), row)
                self.assertEqual(row_number(counts, row_at(counts, place)), place)

    def test_numbers_below_nought_and_beyond_are_refused(self):
        for counts in COUNTS:
            for number in (-1, -2, -LONG, how_many(counts), how_many(counts) + 1, LONG):
                self.assert_refused(BadSetting, "badsetting", row_at, counts, number)

    def test_far_ones(self):
        self.assert_row(row_at([LONG, LONG], LONG), (1, 0))
        self.assert_row(row_at([LONG, LONG], LONG ** 2 - 1), (LONG - 1, LONG - 1))
        self.assert_row(row_at([2] * 60, 2 ** 60 - 1), (1,) * 60)
        self.assert_refused(BadSetting, "badsetting", row_at, [2] * 60, 2 ** 60)

    def test_handed_list_stays(self):
        for counts in COUNTS:
            handed = list(counts)
            row_at(handed, how_many(handed) - 1)
            self.assertEqual(handed, counts)

    def test_by_name_and_with_a_tuple(self):
        self.assert_row(row_at(number=5, counts=[2, 3]), (1, 2))
        self.assert_row(row_at((2, 3), 5), (1, 2))

    def test_asked_again(self):
        counts = [2, 3]
        self.assertEqual([row_at(counts, 4) for step in range(3)], [(1, 1)] * 3)


if __name__ == "__main__":
    unittest.main()
