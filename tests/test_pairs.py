"""[6] how many lie below and above each point, and how many pairs there are in all."""

import unittest

from belowpoints.counts.pairs import above_each, below_each, pairs_in_all
from examples import (
    FALLING, HEAPS, MIXED, NONE, ONE, RISING, RISING_BACK, SAME_PLACE, SAME_X, SAME_Y, SIXTY_FALLING, SIXTY_RISING,
    SIXTY_SAME, above_one_by_one, below_one_by_one, pairs_one_by_one,
)


class Counting(unittest.TestCase):
    def assert_told(self, points, below, above, pairs):
        self.assertEqual(below_each(points), below)
        self.assertEqual(above_each(points), above)
        self.assertEqual(pairs_in_all(points), pairs)

    def test_none_and_one(self):
        self.assert_told(NONE, (), (), 0)
        self.assert_told(ONE, (0,), (0,), 0)

    def test_two(self):
        self.assert_told((("a", 0, 0), ("b", 1, 1)), (0, 1), (1, 0), 1)
        self.assert_told((("b", 1, 1), ("a", 0, 0)), (1, 0), (0, 1), 1)
        self.assert_told((("a", 0, 1), ("b", 1, 0)), (0, 0), (0, 0), 0)

    def test_one_place(self):
        self.assert_told(SAME_PLACE, (0,) * 5, (0,) * 5, 0)
        self.assert_told(SIXTY_SAME, (0,) * 60, (0,) * 60, 0)

    def test_on_one_line(self):
        below = (4, 2, 3, 4, 0, 1)
        above = (0, 3, 2, 0, 5, 4)
        self.assert_told(SAME_X, below, above, 14)
        self.assert_told(SAME_Y, below, above, 14)

    def test_rising(self):
        self.assert_told(RISING, tuple(range(9)), tuple(range(8, -1, -1)), 36)
        self.assert_told(RISING_BACK, tuple(range(8, -1, -1)), tuple(range(9)), 36)
        self.assert_told(SIXTY_RISING, tuple(range(60)), tuple(range(59, -1, -1)), 1770)

    def test_falling(self):
        self.assert_told(FALLING, (0,) * 9, (0,) * 9, 0)
        self.assert_told(SIXTY_FALLING, (0,) * 60, (0,) * 60, 0)

    def test_mixed(self):
        self.assert_told(MIXED, (0, 3, 3, 3, 0, 6, 0, 2), (5, 1, 1, 1, 0, 0, 5, 4), 17)

    def test_against_all_pairs_one_by_one(self):
        for points in HEAPS:
            with self.subTest(points=points):
                below = below_one_by_one(points)
                above = above_one_by_one(points)
                self.assert_told(points, below, above, pairs_one_by_one(points))

    def test_kinds(self):
        for points in HEAPS:
            for told in (below_each(points), above_each(points)):
                self.assertIs(type(told), tuple)
                self.assertEqual([type(many) for many in told], [int] * len(points))
            self.assertIs(type(pairs_in_all(points)), int)

    def test_by_name_and_again(self):
        for points in (NONE, MIXED):
            self.assertEqual(below_each(points=points), below_each(points))
            self.assertEqual(above_each(points=points), above_each(points))
            self.assertEqual(pairs_in_all(points=points), pairs_in_all(points))


if __name__ == "__main__":
    unittest.main()
