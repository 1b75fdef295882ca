"""The bounds and sorts of what stands."""

import unittest

from hueshade.stands import MOST_LOOKS, MOST_THINGS, SORTS


class TestNames(unittest.TestCase):
    def test_values(self):
        self.assertEqual(MOST_THINGS, 12)
        self.assertEqual(MOST_LOOKS, 24)
        self.assertEqual(SORTS, ("lamp", "post", "pane"))

    def test_kinds(self):
        self.assertEqual([type(MOST_THINGS), type(MOST_LOOKS), type(SORTS)], [int, int, tuple])
        self.assertEqual([type(sort) for sort in SORTS], [str, str, str])


if __name__ == "__main__":
    unittest.main()
