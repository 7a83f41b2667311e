"""[11] corners and boxes, [12] the so-manieth point of a box."""

import unittest

from belowpoints.errors import BelowError, NoPlace
from belowpoints.heaps.boxes import in_boxes, in_corner, nth_by_x, nth_by_y, weights_in
from examples import (
    FALLING, GREAT, HEAPS, MIXED, NONE, ONE, RISING, SAME_PLACE, SAME_X, SAME_Y, SIXTY_FALLING, SIXTY_MIDDLE,
    SIXTY_NARROW, SIXTY_RISING, SIXTY_SAME, SIXTY_WIDE, named, strewn,
)

FAR = 9999999999999
ALL = (-FAR, -FAR, FAR, FAR)
SMALL = tuple(points for points in HEAPS if len(points) < 20)
SIXTY = (SIXTY_WIDE, SIXTY_NARROW, SIXTY_MIDDLE, SIXTY_RISING, SIXTY_FALLING, SIXTY_SAME)


def is_in(point, box):
    name, x, y = point
    first_x, first_y, other_x, other_y = box
    return not (x < first_x or y < first_y or x > other_x or y > other_y)


def boxes_round(points):
    """Boxes whose edges go through the points, beside them, and whose other ends are less."""
    boxes = [ALL, (FAR, FAR, -FAR, -FAR), (0, 0, 0, 0), (-1, -1, 1, 1), (0, -FAR, 0, FAR), (-FAR, 0, FAR, 0)]
    for turn, (name, x, y) in enumerate(points):
        boxes.extend([(x, y, x, y), (x, y, FAR, FAR), (-FAR, -FAR, x, y), (x + 1, y, FAR, FAR), (x, y + 1, FAR, FAR)])
        boxes.extend([(-FAR, -FAR, x - 1, y), (-FAR, -FAR, x, y - 1), (x, y, x - 1, y), (x, y, x, y - 1)])
        other = points[turn * 7 % len(points)]
        boxes.extend([(x, y, other[1], other[2]), (x, other[2], other[1], y), (x - 1, y - 1, x + 1, y + 1)])
    return boxes


def hundreds(boxes):
    return [tuple(boxes[first:first + 100]) for first in range(0, len(boxes), 100)]


def weights_for(points):
    """Below 0, 0 and of ten figures, by the points' turns."""
    return {
        point[0]: (9999999999, -9999999999, 0, 1, -1, 17, 1234567890)[turn * 5 % 7] for turn, point in enumerate(points)
    }


class Corners(unittest.TestCase):
    def test_the_edges_are_counted(self):
        points = named([(0, 0), (1, 0), (0, 1), (1, 1), (2, 2), (-5, 9), (9, -5)])
        self.assertEqual(in_corner(points, 0, 0), 1)
        self.assertEqual(in_corner(points, 1, 0), 2)
        self.assertEqual(in_corner(points, 0, 1), 2)
        self.assertEqual(in_corner(points, 1, 1), 4)
        self.assertEqual(in_corner(points, 2, 1), 4)
        self.assertEqual(in_corner(points, 2, 2), 5)
        self.assertEqual(in_corner(points, -1, -1), 0)
        self.assertEqual(in_corner(points, FAR, -5), 1)
        self.assertEqual(in_corner(points, -5, FAR), 1)
        self.assertEqual(in_corner(points, 9, 9), 7)

    def test_none_and_several_at_one_place(self):
        self.assertEqual(in_corner(NONE, 0, 0), 0)
        self.assertEqual(in_corner(SAME_PLACE, 2, 5), 5)
        self.assertEqual(in_corner(SAME_PLACE, 1, 5), 0)
        self.assertEqual(in_corner(SAME_PLACE, 2, 4), 0)
        self.assertEqual(in_corner(SIXTY_SAME, -1, 0), 60)

    def test_against_going_through_all(self):
        for points in HEAPS:
            places = [(x + by_x, y + by_y) for name, x, y in points for by_x in (-1, 0, 1) for by_y in (-1, 0, 1)]
            for x, y in places + [(0, 0), (FAR, FAR), (-FAR, FAR), (FAR, -FAR)]:
                held = sum(1 for point in points if point[1] <= x and point[2] <= y)
                self.assertEqual(in_corner(points, x, y), held, (points, x, y))

    def test_kind_name_and_again(self):
        self.assertIs(type(in_corner(NONE, 0, 0)), int)
        self.assertIs(type(in_corner(MIXED, 2, 1)), int)
        self.assertEqual(in_corner(points=MIXED, x=2, y=1), 5)
        self.assertEqual(in_corner(y=1, x=2, points=MIXED), in_corner(MIXED, 2, 1))


class Boxes(unittest.TestCase):
    def test_no_points_and_no_boxes(self):
        self.assertEqual(in_boxes(NONE, ()), ())
        self.assertEqual(in_boxes(MIXED, ()), ())
        self.assertEqual(in_boxes(NONE, (ALL, (0, 0, 0, 0))), (0, 0))
        self.assertEqual(weights_in(NONE, (), {}), ())
        self.assertEqual(weights_in(ONE, (), {"aa": 5}), ())
        self.assertEqual(weights_in(NONE, (ALL, (0, 0, 0, 0)), {}), (0, 0))

    def test_each_edge_and_corner(self):
        # Nine points in a square, and sixteen round it.
        points = named([(x, y) for x in range(-2, 3) for y in range(-2, 3)])
        self.assertEqual(in_boxes(points, ((-1, -1, 1, 1),)), (9,))
        for point in points:
            inside = abs(point[1]) <= 1 and abs(point[2]) <= 1
            self.assertEqual(in_boxes((point,), ((-1, -1, 1, 1),)), (1 if inside else 0,), point)

    def test_a_box_of_one_place(self):
        self.assertEqual(in_boxes(MIXED, ((2, 1, 2, 1), (0, 0, 0, 0), (1, 1, 1, 1), (3, 3, 3, 3))), (2, 2, 1, 0))
        self.assertEqual(in_boxes(SAME_PLACE, ((2, 5, 2, 5), (2, 4, 2, 4), (1, 5, 1, 5))), (5, 0, 0))

    def test_other_ends_less(self):
        boxes = ((2, 0, 0, 2), (0, 2, 2, 0), (2, 2, 0, 0), (1, 0, 0, 5), (0, 1, 5, 0), (FAR, FAR, -FAR, -FAR))
        self.assertEqual(in_boxes(MIXED, boxes), (0,) * 6)
        self.assertEqual(weights_in(MIXED, boxes, weights_for(MIXED)), (0,) * 6)

    def test_the_ends_are_x_y_other_x_other_y(self):
        points = named([(0, 10), (5, 10), (5, 20), (0, 20), (10, 0), (20, 5)])
        self.assertEqual(in_boxes(points, ((0, 10, 5, 20), (10, 0, 20, 5), (0, 10, 5, 10), (0, 10, 0, 20))), (4, 2, 2, 2))

    def test_in_the_order_of_the_boxes_and_one_twice(self):
        boxes = ((0, 0, 0, 0), ALL, (2, 1, 2, 1), (0, 0, 0, 0), (5, 5, 4, 4), ALL)
        self.assertEqual(in_boxes(MIXED, boxes), (2, 8, 2, 2, 0, 8))
        ones = {point[0]: 1 for point in MIXED}
        self.assertEqual(weights_in(MIXED, boxes, ones), (2, 8, 2, 2, 0, 8))

    def test_against_going_through_all(self):
        for points in HEAPS:
            for boxes in hundreds(boxes_round(points)):
                held = tuple(sum(1 for point in points if is_in(point, box)) for box in boxes)
                with self.subTest(points=points):
                    self.assertEqual(in_boxes(points, boxes), held)

    def test_weights_written_out(self):
        points = named([(0, 0), (1, 1), (1, 1), (2, 2)])
        weights = {"ad": 9999999999, "aa": -5, "ac": 7, "ab": -9999999999}
        boxes = ((0, 0, 1, 1), (1, 1, 1, 1), (2, 2, 2, 2), (0, 0, 2, 2), (0, 0, 0, 0), (2, 2, 1, 1), (3, 3, 9, 9))
        told = (-9999999997, -9999999992, 9999999999, 2, -5, 0, 0)
        self.assertEqual(weights_in(points, boxes, weights), told)

    def test_weights_against_going_through_all(self):
        for points in HEAPS:
            weights = weights_for(points)
            for boxes in hundreds(boxes_round(points)):
                held = tuple(sum(weights[point[0]] for point in points if is_in(point, box)) for box in boxes)
                with self.subTest(points=points):
                    self.assertEqual(weights_in(points, boxes, weights), held)

    def test_weights_are_not_changed_nor_kept(self):
        weights = weights_for(MIXED)
        before = dict(weights)
        told = weights_in(MIXED, (ALL, (0, 0, 1, 1)), weights)
        self.assertEqual(list(weights.items()), list(before.items()))
        weights["aa"] += 1000
        self.assertEqual(weights_in(MIXED, (ALL, (0, 0, 1, 1)), before), told)
        self.assertEqual(weights_in(MIXED, (ALL, (0, 0, 1, 1)), weights), (told[0] + 1000, told[1] + 1000))

    def test_kinds(self):
        for points in SMALL:
            boxes = tuple(boxes_round(points)[:100])
            for told in (in_boxes(points, boxes), weights_in(points, boxes, weights_for(points))):
                self.assertIs(type(told), tuple)
                self.assertEqual([type(number) for number in told], [int] * len(boxes))

    def test_by_name_and_again(self):
        boxes = (ALL, (0, 0, 1, 1), (1, 1, 0, 0))
        weights = weights_for(MIXED)
        self.assertEqual(in_boxes(points=MIXED, boxes=boxes), (8, 3, 0))
        self.assertEqual(in_boxes(boxes=boxes, points=MIXED), in_boxes(MIXED, boxes))
        told = weights_in(points=MIXED, boxes=boxes, weights=weights)
        self.assertEqual(told, weights_in(MIXED, boxes, weights))
        self.assertEqual(told, weights_in(weights=weights, boxes=boxes, points=MIXED))


class InOrder(unittest.TestCase):
    def assert_order(self, points, box, by_x, by_y):
        for nth, names in ((nth_by_x, by_x), (nth_by_y, by_y)):
            told = []
            for place in range(len(names)):
                name = nth(points, box, place)
                self.assertIs(type(name), str)
                self.assertEqual(nth(points=points, box=box, place=place), name)
                told.append(name)
            self.assertEqual(told, list(names), (points, box))
            for place in (len(names), len(names) + 1, -1, -len(names), -len(names) - 1, FAR, -FAR):
                if not 0 <= place < len(names):
                    self.assert_refused(nth, points, box, place)

    def assert_refused(self, nth, points, box, place):
        with self.assertRaises(NoPlace) as held:
            nth(points, box, place)
        self.assertIsInstance(held.exception, BelowError)
        self.assertIs(type(str(held.exception)), str)
        with self.assertRaises(NoPlace):
            nth(place=place, box=box, points=points)

    def test_written_out(self):
        points = (("p", 3, 1), ("q", 1, 3), ("r", 2, 2), ("s", 1, 1), ("t", 3, 1), ("u", 9, 0), ("v", 1, 3), ("w", 0, 9))
        self.assert_order(points, (1, 1, 3, 3), "sqvrpt", "sptrqv")
        self.assert_order(points, ALL, "wsqvrptu", "usptrqvw")
        self.assert_order(points, (1, 1, 1, 3), "sqv", "sqv")
        self.assert_order(points, (1, 1, 3, 1), "spt", "spt")
        self.assert_order(points, (3, 1, 3, 1), "pt", "pt")

    def test_empty_boxes(self):
        for points in (NONE, ONE, MIXED):
            self.assert_order(points, (100, 100, 200, 200), "", "")
            self.assert_order(points, (FAR, -FAR, -FAR, FAR), "", "")
            self.assert_order(points, (-FAR, FAR, FAR, -FAR), "", "")
        self.assert_order(NONE, ALL, "", "")

    def test_one_x_one_y_one_place(self):
        by_number = ("ae", "af", "ab", "ac", "aa", "ad")
        self.assert_order(SAME_X, ALL, by_number, by_number)
        self.assert_order(SAME_Y, ALL, by_number, by_number)
        as_told = ("aa", "ab", "ac", "ad", "ae")
        self.assert_order(SAME_PLACE, ALL, as_told, as_told)
        self.assert_order(SAME_PLACE, (2, 5, 2, 5), as_told, as_told)

    def test_one_place_as_told_and_not_by_name(self):
        points = (("c", 1, 1), ("a", 1, 1), ("d", 0, 2), ("b", 1, 1))
        self.assert_order(points, ALL, "dcab", "cabd")

    def test_rising_and_falling(self):
        names = [point[0] for point in RISING]
        self.assert_order(RISING, ALL, names, names)
        names = [point[0] for point in FALLING]
        self.assert_order(FALLING, ALL, names, names[::-1])

    def test_against_going_through_all(self):
        for points in SMALL + SIXTY:
            boxes = boxes_round(points)
            for box in boxes if len(points) < 10 else boxes[:1] + boxes[6::11][:20]:
                held = [(point, turn) for turn, point in enumerate(points) if is_in(point, box)]
                by_x = sorted((x, y, turn, name) for (name, x, y), turn in held)
                by_y = sorted((y, x, turn, name) for (name, x, y), turn in held)
                self.assert_order(points, box, [row[3] for row in by_x], [row[3] for row in by_y])

    def test_great_numbers(self):
        self.assert_order(
            GREAT, ALL, ("ad", "ab", "ae", "ag", "af", "aa", "ac"), ("ad", "aa", "ae", "ag", "ab", "af", "ac"))

    def test_the_so_manieth_of_more_boxes(self):
        points = strewn(12, 2, 8)
        for box in ((-2, -2, 0, 2), (0, 0, 2, 2), (-1, -2, 1, 0)):
            many = in_boxes(points, (box,))[0]
            self.assertGreater(many, 0)
            for nth in (nth_by_x, nth_by_y):
                self.assertEqual(len({nth(points, box, place) for place in range(many)}), many)
                self.assert_refused(nth, points, box, many)
                self.assert_refused(nth, points, box, -1)


if __name__ == "__main__":
    unittest.main()
