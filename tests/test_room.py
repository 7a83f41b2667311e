"""[18] points in the room: how many lie below each, all pairs, and the best."""

import itertools
import unittest

from belowpoints.counts.pairs import below_each, pairs_in_all
from belowpoints.room import room_below, room_best, room_pairs
from examples import HEAPS, MIXED, above_one_by_one, strewn

MOST = 9999999999


def in_room(places):
    """Points at these places of three numbers, with names aa, ab, ac and so on."""
    letters = "abcdefghijklmnopqrstuvwxyz"
    return tuple((letters[turn // 26] + letters[turn % 26],) + tuple(place) for turn, place in enumerate(places))


def strewn_in_room(many, wide, seed):
    flat = strewn(many, wide, seed)
    heights = strewn(many, wide, seed + 31)
    return tuple(point + (other[1],) for point, other in zip(flat, heights))


def with_number(points, at, number):
    """The points with one more number, the same for all, ahead of, between or behind the two others."""
    return tuple(point[:at] + (number,) + point[at:] for point in points)


def is_below_in_room(one, other):
    if one[1] > other[1] or one[2] > other[2] or one[3] > other[3]:
        return False
    return one[1] < other[1] or one[2] < other[2] or one[3] < other[3]


NONE = ()
ONE = in_room([(3, -4, 5)])
CUBE = in_room(itertools.product((0, 1), repeat=3))
SAME_PLACE = in_room([(2, 5, -1)] * 5)
RISING = in_room([(k, 2 * k, 3 * k) for k in range(-4, 5)])
APART = in_room([(k, -k, 0) for k in range(5)] + [(k, 0, -k) for k in range(1, 5)])
GREAT = in_room(itertools.product((-MOST, 0, MOST), (-MOST, MOST), (-MOST, MOST - 1, MOST)))
SIXTY = tuple(strewn_in_room(60, wide, 40 + wide) for wide in (1, 3, 10, 100, MOST))
SIXTY_RISING = in_room([(k, k, k) for k in range(60)])
SIXTY_SAME = in_room([(1, 1, 1)] * 60)
HEAPS_IN_ROOM = (NONE, ONE, CUBE, SAME_PLACE, RISING, APART, GREAT, SIXTY_RISING, SIXTY_SAME) + SIXTY + tuple(
    strewn_in_room(many, wide, 300 * many + wide) for many in range(2, 20) for wide in (1, 2, 5)
)


class Telling(unittest.TestCase):
    def assert_told(self, points, below, pairs, best):
        self.assertEqual(room_below(points), below)
        self.assertEqual(room_pairs(points), pairs)
        self.assertEqual(room_best(points), best)

    def test_none_and_one(self):
        self.assert_told(NONE, (), 0, ())
        self.assert_told(ONE, (0,), 0, ("aa",))

    def test_two(self):
        for place in ((1, 0, 0), (0, 1, 0), (0, 0, 1), (1, 1, 0), (1, 0, 1), (0, 1, 1), (1, 1, 1), (MOST, 0, 0)):
            self.assert_told(in_room([(0, 0, 0), place]), (0, 1), 1, ("ab",))
            self.assert_told(in_room([place, (0, 0, 0)]), (1, 0), 1, ("aa",))
        for place in ((1, -1, 0), (0, 1, -1), (-1, 0, 1), (1, 1, -1), (1, -1, 1), (-1, 1, 1), (-1, -1, 1), (0, 0, 0)):
            self.assert_told(in_room([(0, 0, 0), place]), (0, 0), 0, ("aa", "ab"))

    def test_a_cube(self):
        self.assert_told(CUBE, (0, 1, 1, 3, 1, 3, 3, 7), 19, ("ah",))

    def test_one_place(self):
        self.assert_told(SAME_PLACE, (0,) * 5, 0, ("aa", "ab", "ac", "ad", "ae"))
        self.assert_told(SIXTY_SAME, (0,) * 60, 0, tuple(point[0] for point in SIXTY_SAME))

    def test_several_at_one_place_among_others(self):
        points = in_room([(1, 1, 1), (0, 0, 0), (1, 1, 1), (0, 0, 0), (1, 1, 0)])
        self.assert_told(points, (3, 0, 3, 0, 2), 8, ("aa", "ac"))

    def test_rising(self):
        self.assert_told(RISING, tuple(range(9)), 36, ("ai",))
        self.assert_told(RISING[::-1], tuple(range(8, -1, -1)), 36, ("ai",))
        self.assert_told(SIXTY_RISING, tuple(range(60)), 1770, ("ch",))

    def test_the_best_in_the_points_order(self):
        points = (("z", 0, 5, 1), ("a", 0, 4, 1), ("m", 5, 0, 1), ("b", 3, 3, 3))
        self.assert_told(points, (1, 0, 0, 0), 1, ("z", "m", "b"))
        self.assertEqual(room_best(points[::-1]), ("b", "m", "z"))

    def test_one_number_alike_for_all(self):
        for flat in HEAPS:
            best = tuple(point[0] for point, many in zip(flat, above_one_by_one(flat)) if many == 0)
            for at in (1, 2, 3):
                points = with_number(flat, at, -7)
                with self.subTest(points=points):
                    self.assert_told(points, below_each(flat), pairs_in_all(flat), best)

    def test_two_numbers_alike_for_all(self):
        for at in (1, 2, 3):
            points = tuple(("abc"[turn],) + (4,) * (at - 1) + (number,) + (4,) * (3 - at)
                           for turn, number in enumerate((2, 3, 1)))
            self.assert_told(points, (1, 2, 0), 3, ("b",))

    def test_great_numbers(self):
        self.assert_told(in_room([(MOST, MOST, MOST), (-MOST, -MOST, -MOST), (MOST, MOST - 1, MOST)]), (2, 0, 1), 3, ("aa",))
        self.assert_told(in_room([(MOST, -MOST, 0), (-MOST, MOST, 0)]), (0, 0), 0, ("aa", "ab"))

    def test_against_all_pairs_one_by_one(self):
        for points in HEAPS_IN_ROOM:
            below = tuple(sum(is_below_in_room(one, other) for one in points) for other in points)
            pairs = sum(is_below_in_room(one, other) for one in points for other in points)
            best = tuple(one[0] for one in points if not any(is_below_in_room(one, other) for other in points))
            with self.subTest(points=points):
                self.assert_told(points, below, pairs, best)

    def test_kinds_and_again(self):
        for points in HEAPS_IN_ROOM:
            self.assertIs(type(room_below(points)), tuple)
            self.assertEqual([type(many) for many in room_below(points)], [int] * len(points))
            self.assertIs(type(room_pairs(points)), int)
            self.assertIs(type(room_best(points)), tuple)
            self.assertEqual({type(name) for name in room_best(points)} - {str}, set())
            self.assertEqual(room_below(points), room_below(points))
            self.assertEqual(room_best(points), room_best(points))

    def test_by_name(self):
        for points in (NONE, CUBE, with_number(MIXED, 2, 0)):
            self.assertEqual(room_below(points=points), room_below(points))
            self.assertEqual(room_pairs(points=points), room_pairs(points))
            self.assertEqual(room_best(points=points), room_best(points))


if __name__ == "__main__":
    unittest.main()
