"""[7] halves, [8] the looker at halves."""

import unittest

from belowpoints.counts.halves import halves_of, halves_shown
from examples import (
    FALLING, HEAPS, MIXED, NONE, ONE, RISING, SAME_PLACE, SAME_X, SIXTY_MIDDLE, SIXTY_NARROW, SIXTY_RISING, SIXTY_SAME,
    SIXTY_WIDE, is_below, named, pairs_one_by_one,
)


def halves_one_by_one(points):
    """The halves, with the stretches still to be halved kept in a row of their own."""
    turns = sorted(range(len(points)), key=lambda turn: (points[turn][1], points[turn][2], turn))
    told = []
    waiting = [(0, len(points))]
    while waiting:
        first, behind = waiting.pop()
        if behind - first < 2:
            continue
        middle = first + (behind - first) // 2
        crossings = 0
        for lower in turns[first:middle]:
            for upper in turns[middle:behind]:
                if is_below(points[lower], points[upper]):
                    crossings += 1
        told.append((first, behind, crossings))
        waiting.append((middle, behind))
        waiting.append((first, middle))
    return tuple(told)


class Halving(unittest.TestCase):
    def test_none_and_one(self):
        self.assertEqual(halves_of(NONE), ())
        self.assertEqual(halves_of(ONE), ())

    def test_two(self):
        self.assertEqual(halves_of(named([(0, 0), (1, 1)])), ((0, 2, 1),))
        self.assertEqual(halves_of(named([(1, 1), (0, 0)])), ((0, 2, 1),))
        self.assertEqual(halves_of(named([(0, 1), (1, 0)])), ((0, 2, 0),))
        self.assertEqual(halves_of(named([(1, 0), (0, 1)])), ((0, 2, 0),))

    def test_two_with_the_same_x_or_y_or_place(self):
        self.assertEqual(halves_of(named([(4, 1), (4, 0)])), ((0, 2, 1),))
        self.assertEqual(halves_of(named([(1, 4), (0, 4)])), ((0, 2, 1),))
        self.assertEqual(halves_of(named([(4, 4), (4, 4)])), ((0, 2, 0),))

    def test_the_lower_half_of_three_has_one(self):
        self.assertEqual(halves_of(named([(2, 2), (0, 0), (1, 1)])), ((0, 3, 2), (1, 3, 1)))
        self.assertEqual(halves_of(named([(0, 5), (1, 0), (2, 9)])), ((0, 3, 1), (1, 3, 1)))

    def test_order_in_which_halves_are_told(self):
        self.assertEqual(
            halves_of(named([(k, k) for k in range(7)])),
            ((0, 7, 12), (0, 3, 2), (1, 3, 1), (3, 7, 4), (3, 5, 1), (5, 7, 1)),
        )
        self.assertEqual(halves_of(named([(k, -k) for k in range(4)])), ((0, 4, 0), (0, 2, 0), (2, 4, 0)))

    def test_same_x_goes_by_y(self):
        # By x alone (7, 3) would lie in the lower half, and cross with nothing.
        self.assertEqual(halves_of(named([(7, 3), (7, 1), (7, 2), (7, 0)])), ((0, 4, 4), (0, 2, 1), (2, 4, 1)))
        self.assertEqual(
            halves_of(SAME_X), ((0, 6, 9), (0, 3, 2), (1, 3, 1), (3, 6, 2), (4, 6, 0)))

    def test_one_place(self):
        self.assertEqual(halves_of(SAME_PLACE), ((0, 5, 0), (0, 2, 0), (2, 5, 0), (3, 5, 0)))

    def test_sixty(self):
        for points in (SIXTY_WIDE, SIXTY_NARROW, SIXTY_MIDDLE, SIXTY_RISING, SIXTY_SAME):
            told = halves_of(points)
            self.assertEqual(len(told), 59)
            self.assertEqual(told[0][:2], (0, 60))
            self.assertEqual(told[1][:2], (0, 30))
        self.assertEqual(halves_of(SIXTY_RISING)[0], (0, 60, 900))

    def test_against_all_pairs_one_by_one(self):
        for points in HEAPS:
            with self.subTest(points=points):
                self.assertEqual(halves_of(points), halves_one_by_one(points))

    def test_all_crossings_together_are_all_pairs(self):
        for points in HEAPS:
            with self.subTest(points=points):
                self.assertEqual(sum(crossings for _, _, crossings in halves_of(points)), pairs_one_by_one(points))

    def test_kinds(self):
        for points in HEAPS:
            told = halves_of(points)
            self.assertIs(type(told), tuple)
            for half in told:
                self.assertIs(type(half), tuple)
                self.assertEqual([type(number) for number in half], [int, int, int])

    def test_by_name_and_again(self):
        self.assertEqual(halves_of(points=NONE), ())
        self.assertEqual(halves_of(points=MIXED), halves_of(MIXED))


class Looking(unittest.TestCase):
    def assert_shown(self, points, halves, truth):
        with self.subTest(points=points, halves=halves):
            self.assertIs(halves_shown(points, halves), truth)
            self.assertIs(halves_shown(points=points, halves=halves), truth)

    def test_true_of_the_halves_told(self):
        for points in HEAPS:
            self.assert_shown(points, halves_of(points), True)
            self.assert_shown(points, halves_one_by_one(points), True)

    def test_true_of_halves_written_by_hand(self):
        self.assert_shown(named([(2, 2), (0, 0), (1, 1)]), ((0, 3, 2), (1, 3, 1)), True)

    def test_false_of_a_number_changed(self):
        for points in (RISING, FALLING, MIXED, SAME_PLACE, SIXTY_NARROW):
            told = halves_of(points)
            for turn, half in enumerate(told):
                for part in range(3):
                    for more in (-1, 1, 10 ** 13):
                        changed = half[:part] + (half[part] + more,) + half[part + 1:]
                        self.assert_shown(points, told[:turn] + (changed,) + told[turn + 1:], False)

    def test_false_of_two_exchanged(self):
        for points in (RISING, FALLING, MIXED, SAME_PLACE):
            told = halves_of(points)
            for one in range(len(told)):
                for other in range(one):
                    row = list(told)
                    row[one], row[other] = row[other], row[one]
                    self.assert_shown(points, tuple(row), False)

    def test_false_of_one_left_out_put_in_or_twice(self):
        for points in (RISING, FALLING, MIXED, SAME_PLACE):
            told = halves_of(points)
            for turn in range(len(told)):
                self.assert_shown(points, told[:turn] + told[turn + 1:], False)
                self.assert_shown(points, told[:turn] + (told[turn],) + told[turn:], False)
            for turn in range(len(told) + 1):
                for half in ((0, 0, 0), (0, 1, 0), (1, 2, 0), (-1, 1, 0)):
                    self.assert_shown(points, told[:turn] + (half,) + told[turn:], False)

    def test_false_from_behind(self):
        for points in (RISING, FALLING, MIXED, SAME_PLACE):
            self.assert_shown(points, halves_of(points)[::-1], False)

    def test_false_of_none_where_there_are_some(self):
        for points in HEAPS:
            self.assert_shown(points, (), len(points) < 2)

    def test_false_of_some_where_there_are_none(self):
        for halves in (((0, 0, 0),), ((0, 1, 0),), ((0, 2, 1),), ((0, 2, 0), (0, 1, 0))):
            self.assert_shown(NONE, halves, False)
            self.assert_shown(ONE, halves, False)

    def test_false_of_other_halves_with_as_many_crossings(self):
        # Three points in a row, halved with two in the lower half.
        self.assert_shown(named([(0, 0), (1, 1), (2, 2)]), ((0, 3, 2), (0, 2, 1)), False)


if __name__ == "__main__":
    unittest.main()
