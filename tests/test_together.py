"""[1], [2], [3] over the whole program: the interface, the greatest that is handed in, and parts held against parts."""

import importlib
import inspect
import time
import unittest

from belowpoints.chains.covers import cover_of, cover_shown, crowd_of
from belowpoints.chains.stairs import chains_of_each, heaviest_chain, longest_chains, stair_of_each, stairs_of
from belowpoints.counts.halves import halves_of, halves_shown
from belowpoints.counts.pairs import above_each, below_each, pairs_in_all
from belowpoints.counts.sums import SumTree, places_of
from belowpoints.heaps.boxes import in_boxes, in_corner, nth_by_x, nth_by_y, weights_in
from belowpoints.heaps.texts import lies_below, points_shown, read_points
from belowpoints.kept import KeptPoints
from belowpoints.room import room_below, room_best, room_pairs
from belowpoints.rows import count_of, counts_of, nth_row, place_of_row, row_of, rows_with
from belowpoints.whole import Desk
from examples import (
    HEAPS, SIXTY_FALLING, SIXTY_MIDDLE, SIXTY_NARROW, SIXTY_RISING, SIXTY_SAME, SIXTY_WIDE, named, pairs_one_by_one,
)

MOST = 9999999999
SIXTY = (SIXTY_WIDE, SIXTY_NARROW, SIXTY_MIDDLE, SIXTY_RISING, SIXTY_FALLING, SIXTY_SAME)
# Many points, many chains and many crowds at once: going through all of either would not end.
SIXTY_IN_SIXES = named([(turn // 6 + turn % 6, turn // 6 - turn % 6) for turn in range(60)])

DEFS = {
    "heaps.texts": {"read_points": "text", "points_shown": "points", "lies_below": "one other"},
    "counts.pairs": {"below_each": "points", "above_each": "points", "pairs_in_all": "points"},
    "counts.halves": {"halves_of": "points", "halves_shown": "points halves"},
    "counts.sums": {"SumTree": "many", "places_of": "numbers"},
    "heaps.boxes": {
        "in_corner": "points x y", "in_boxes": "points boxes", "weights_in": "points boxes weights",
        "nth_by_x": "points box place", "nth_by_y": "points box place",
    },
    "kept": {"KeptPoints": ""},
    "chains.stairs": {
        "stairs_of": "points", "stair_of_each": "points", "longest_chains": "points",
        "heaviest_chain": "points weights", "chains_of_each": "points",
    },
    "chains.covers": {"cover_of": "points", "crowd_of": "points", "cover_shown": "points cover crowd"},
    "room": {"room_below": "points", "room_pairs": "points", "room_best": "points"},
    "rows": {
        "counts_of": "row", "count_of": "row", "row_of": "counts", "rows_with": "many", "nth_row": "many count place",
        "place_of_row": "row",
    },
    "whole": {"Desk": ""},
}
METHODS = (
    (SumTree(3), {
        "put_to": "place number", "sum_of_first": "many", "sum_from_to": "first last", "number_at": "place",
        "row_now": "", "cells_now": "", "least_many": "number",
    }),
    (KeptPoints(), {
        "put_point": "name x y", "take_point": "name", "move_point": "name x y", "points_now": "", "below_now": "x y",
        "above_now": "x y", "pairs_now": "", "box_now": "box",
    }),
    (Desk(), {"ask": "line"}),
)


def arguments_of(thing):
    return " ".join(inspect.signature(thing).parameters)


def ones(points):
    return {point[0]: 1 for point in points}


def in_room(points):
    return tuple((name, x, y, x - y) for name, x, y in points)


def pairs_by_a_tree(points):
    """Pairs by a tree of sums over the places of y: those ahead by x and not above by y, less those at one place."""
    ordered = sorted(points, key=lambda point: point[1:])
    unlike, places = places_of(tuple(point[2] for point in ordered))
    tree = SumTree(max(len(unlike), 1))
    pairs = 0
    for turn, place in enumerate(places):
        same = sum(1 for other in ordered[:turn] if other[1:] == ordered[turn][1:])
        pairs += tree.sum_of_first(place) - same
        tree.put_to(place, 1)
    return pairs


class Interface(unittest.TestCase):
    def test_names_and_arguments(self):
        for module, defs in DEFS.items():
            found = importlib.import_module(f"belowpoints.{module}")
            for name, arguments in defs.items():
                with self.subTest(module=module, name=name):
                    self.assertEqual(arguments_of(getattr(found, name)), arguments)
                    self.assertEqual(getattr(found, name).__module__, found.__name__)

    def test_methods_and_arguments(self):
        for thing, methods in METHODS:
            for name, arguments in methods.items():
                with self.subTest(kind=type(thing).__name__, name=name):
                    self.assertEqual(arguments_of(getattr(thing, name)), arguments)


class PartsAgainstParts(unittest.TestCase):
    def test_pairs_by_every_way(self):
        for points in HEAPS + (SIXTY_IN_SIXES,):
            pairs = pairs_one_by_one(points)
            kept = KeptPoints()
            desk = Desk()
            for name, x, y in points:
                kept.put_point(name, x, y)
                desk.ask(f"put {name} {x} {y}")
            with self.subTest(points=points):
                self.assertEqual(pairs_in_all(points), pairs)
                self.assertEqual(sum(below_each(points)), pairs)
                self.assertEqual(sum(above_each(points)), pairs)
                self.assertEqual(sum(crossings for first, behind, crossings in halves_of(points)), pairs)
                self.assertEqual(pairs_by_a_tree(points), pairs)
                self.assertEqual(kept.pairs_now(), pairs)
                self.assertEqual(desk.ask("pairs"), [str(pairs)])
                self.assertEqual(room_pairs(tuple(point + (7,) for point in points)), pairs)
                self.assertEqual((chains_of_each(points) + (0, 0))[1], pairs)

    def test_corners_are_what_lies_below_and_the_same_place(self):
        for points in HEAPS:
            for point, below in zip(points, below_each(points)):
                same = sum(1 for other in points if other[1:] == point[1:])
                self.assertEqual(in_corner(points, point[1], point[2]), below + same)

    def test_stairs_and_chains_cover_each_other(self):
        for points in HEAPS:
            # As many stairs as the longest chain has points, and as many chains as the greatest crowd.
            self.assertEqual(len(stairs_of(points)), longest_chains(points)[0])
            self.assertEqual(len(cover_of(points)), len(crowd_of(points)))
            for stair in stairs_of(points):
                self.assertLessEqual(len(stair), len(crowd_of(points)))
            for chain in cover_of(points):
                self.assertLessEqual(len(chain), longest_chains(points)[0])

    def test_the_best_in_the_room_are_the_first_stair(self):
        for points in HEAPS:
            flat = tuple(point + (0,) for point in points)
            first = stairs_of(points)[0] if points else ()
            self.assertEqual(sorted(room_best(flat)), sorted(first))

    def test_papers_are_let_by(self):
        for points in HEAPS:
            again = read_points(points_shown(points))
            self.assertEqual(again, points)
            self.assertTrue(halves_shown(again, halves_of(points)))
            self.assertTrue(cover_shown(again, cover_of(points), crowd_of(points)))

    def test_what_is_told_may_be_handed_on(self):
        for points in HEAPS[:12]:
            below = below_each(points)
            self.assertEqual(sum(places_of(below)[1]), sum(len({low for low in below if low <= one}) for one in below))
            row = nth_row(len(points) % 13, 0, 0)
            self.assertEqual(row_of(counts_of(row)), row)
            weights = stair_of_each(points)
            self.assertEqual(weights_in(points, ((-MOST, -MOST, MOST, MOST),), weights), (sum(weights.values()),))


class Greatest(unittest.TestCase):
    def assert_quick(self, ask):
        begun = time.monotonic()
        told = ask()
        self.assertLess(time.monotonic() - begun, 5)
        self.assertEqual(ask(), told)

    def test_sixty_points(self):
        boxes = tuple((-turn, -turn, turn * MOST // 100, turn) for turn in range(100))
        for points in SIXTY + (SIXTY_IN_SIXES,):
            weights = {point[0]: MOST for point in points}
            for ask in (
                below_each, above_each, pairs_in_all, halves_of, points_shown, stairs_of, stair_of_each,
                longest_chains, chains_of_each, cover_of, crowd_of,
            ):
                self.assert_quick(lambda: ask(points))
            self.assert_quick(lambda: heaviest_chain(points, weights))
            self.assert_quick(lambda: in_boxes(points, boxes))
            self.assert_quick(lambda: weights_in(points, boxes, weights))
            self.assert_quick(lambda: nth_by_x(points, (-MOST, -MOST, MOST, MOST), 59))
            self.assert_quick(lambda: nth_by_y(points, (-MOST, -MOST, MOST, MOST), 59))
            self.assert_quick(lambda: cover_shown(points, cover_of(points), crowd_of(points)))
            for ask in (room_below, room_pairs, room_best):
                self.assert_quick(lambda: ask(in_room(points)))

    def test_long_rows(self):
        row = tuple(number * 7919 % 10007 - 5000 for number in range(1, 201))
        self.assert_quick(lambda: counts_of(row))
        self.assert_quick(lambda: count_of(row))
        self.assert_quick(lambda: row_of(counts_of(row)))
        self.assert_quick(lambda: places_of(row))
        self.assert_quick(lambda: rows_with(12))
        self.assert_quick(lambda: nth_row(12, 33, rows_with(12)[33] - 1))
        self.assert_quick(lambda: place_of_row(nth_row(12, 33, rows_with(12)[33] - 1)))

    def test_a_long_tree(self):
        tree = SumTree(200)
        for place in range(1, 201):
            tree.put_to(place, MOST)
        for ask in (tree.row_now, tree.cells_now, lambda: tree.least_many(200 * MOST), lambda: tree.sum_of_first(200)):
            self.assert_quick(ask)

    def test_a_long_text(self):
        text = "\n".join(f"{name}aaaaaa -{MOST} {MOST}" for name in ones(SIXTY_WIDE))
        self.assertEqual(points_shown(read_points(text)), text)
        self.assert_quick(lambda: read_points(text))

    def test_a_full_desk(self):
        for points in SIXTY + (SIXTY_IN_SIXES,):
            desk = Desk()
            for name, x, y in points:
                desk.ask(f"put {name} {x} {y}")
            for line in ("points", "counts", "pairs", "halves", "stairs", "longest", "crowd"):
                self.assert_quick(lambda: desk.ask(line))

    def test_great_places(self):
        self.assertIs(lies_below((-MOST, -MOST), (MOST, MOST)), True)
        self.assertIs(lies_below((MOST, MOST), (-MOST, -MOST)), False)
        self.assertIs(lies_below((MOST, MOST - 1), (MOST, MOST)), True)


if __name__ == "__main__":
    unittest.main()
