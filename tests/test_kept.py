"""[13] kept points, held against the stages beneath."""

import unittest

from belowpoints.counts.pairs import pairs_in_all
from belowpoints.errors import BelowError, NoName
from belowpoints.heaps.boxes import in_boxes
from belowpoints.heaps.texts import lies_below
from belowpoints.kept import KeptPoints
from examples import HEAPS, MIXED, SIXTY_NARROW, SIXTY_WIDE, change_kept, comings_and_goings, pairs_one_by_one

FAR = 9999999999999
ALL = (-FAR, -FAR, FAR, FAR)


def kept_of(points):
    kept = KeptPoints()
    for name, x, y in points:
        kept.put_point(name, x, y)
    return kept


def places_round(points):
    places = [(0, 0), (FAR, FAR), (-FAR, -FAR), (FAR, -FAR), (-FAR, FAR)]
    for name, x, y in points:
        places.extend([(x, y), (x + 1, y), (x, y + 1), (x - 1, y), (x, y - 1), (x + 1, y + 1), (x - 1, y - 1)])
    return places


class Keeping(unittest.TestCase):
    def assert_holds(self, kept, points):
        points = tuple(points)
        self.assertEqual(kept.points_now(), points)
        self.assertEqual(kept.pairs_now(), pairs_one_by_one(points))
        self.assertEqual(kept.pairs_now(), pairs_in_all(points))
        for x, y in places_round(points[:8] + points[-1:]):
            below = sum(1 for point in points if lies_below(point[1:], (x, y)))
            above = sum(1 for point in points if lies_below((x, y), point[1:]))
            self.assertEqual(kept.below_now(x, y), below, (x, y))
            self.assertEqual(kept.above_now(x, y), above, (x, y))
            for box in ((x, y, x, y), (x, y, FAR, FAR), (-FAR, -FAR, x, y), (x, y, x - 1, y), (0, 0, x, y)):
                self.assertEqual(kept.box_now(box), in_boxes(points, (box,))[0], box)
        self.assertEqual(kept.box_now(ALL), len(points))

    def test_at_first_none(self):
        self.assert_holds(KeptPoints(), ())
        self.assertEqual(KeptPoints().points_now(), ())
        self.assertEqual(KeptPoints().pairs_now(), 0)
        self.assertEqual(KeptPoints().below_now(0, 0), 0)
        self.assertEqual(KeptPoints().above_now(0, 0), 0)
        self.assertEqual(KeptPoints().box_now(ALL), 0)

    def test_put_in_behind_the_others(self):
        for points in HEAPS:
            kept = KeptPoints()
            for turn, (name, x, y) in enumerate(points):
                self.assertIsNone(kept.put_point(name, x, y))
                if turn < 8 or turn == len(points) - 1:
                    self.assert_holds(kept, points[:turn + 1])

    def test_names_need_not_rise(self):
        kept = kept_of((("c", 1, 1), ("a", 0, 0), ("b", 0, 5)))
        self.assertEqual(kept.points_now(), (("c", 1, 1), ("a", 0, 0), ("b", 0, 5)))

    def test_taken_out(self):
        for turn in range(len(MIXED)):
            kept = kept_of(MIXED)
            self.assertIsNone(kept.take_point(MIXED[turn][0]))
            self.assert_holds(kept, MIXED[:turn] + MIXED[turn + 1:])

    def test_all_taken_out(self):
        kept = kept_of(MIXED)
        left = list(MIXED)
        for turn in (3, 0, 5, 1, 1, 2, 0, 0):
            kept.take_point(left.pop(turn)[0])
            self.assert_holds(kept, left)
        self.assertEqual(left, [])
        kept.put_point("aa", 4, 4)
        self.assert_holds(kept, (("aa", 4, 4),))

    def test_put_in_again_comes_behind(self):
        kept = kept_of((("a", 0, 0), ("b", 1, 1), ("c", 2, 2)))
        kept.take_point("a")
        kept.put_point("a", 0, 0)
        self.assert_holds(kept, (("b", 1, 1), ("c", 2, 2), ("a", 0, 0)))

    def test_moved_keeps_its_turn(self):
        for turn, (name, x, y) in enumerate(MIXED):
            others = [point[1:] for point in MIXED]
            for place in others + [(-9, -9), (9, 9), (-9999999999, 9999999999)]:
                kept = kept_of(MIXED)
                self.assertIsNone(kept.move_point(name, place[0], place[1]))
                self.assert_holds(kept, MIXED[:turn] + ((name,) + place,) + MIXED[turn + 1:])

    def test_moved_to_its_own_place(self):
        kept = kept_of(MIXED)
        for name, x, y in MIXED:
            self.assertIsNone(kept.move_point(name, x, y))
            self.assert_holds(kept, MIXED)

    def test_moved_there_and_back(self):
        kept = kept_of(MIXED)
        kept.move_point("ac", 70, -70)
        kept.move_point("ac", 1, 2)
        self.assert_holds(kept, MIXED)

    def test_a_point_does_not_lie_below_or_above_its_own_place(self):
        kept = kept_of((("a", 0, 0), ("b", 0, 0), ("c", 1, 0), ("d", -1, 0)))
        self.assertEqual(kept.below_now(0, 0), 1)
        self.assertEqual(kept.above_now(0, 0), 1)
        self.assertEqual(kept.below_now(0, 1), 3)
        self.assertEqual(kept.above_now(0, -1), 3)
        self.assertEqual(kept.box_now((0, 0, 0, 0)), 2)
        self.assertEqual(kept.pairs_now(), 5)

    def test_comings_and_goings(self):
        kept = KeptPoints()
        for turn, (word, point, held) in enumerate(comings_and_goings(SIXTY_NARROW[:12], 300, 5)):
            change_kept(kept, word, point)
            if turn % 10 == 0:
                self.assert_holds(kept, held)
            self.assertEqual(kept.points_now(), held)
            self.assertEqual(kept.pairs_now(), pairs_one_by_one(held))
            self.assertEqual(kept.points_now(), kept_of(held).points_now())

    def test_two_by_turns(self):
        one = KeptPoints()
        other = KeptPoints()
        one.put_point("a", 1, 1)
        self.assert_holds(other, ())
        other.put_point("a", 5, 5)
        other.put_point("b", 6, 6)
        self.assert_holds(one, (("a", 1, 1),))
        one.move_point("a", 2, 2)
        self.assert_holds(other, (("a", 5, 5), ("b", 6, 6)))
        other.take_point("a")
        self.assert_holds(one, (("a", 2, 2),))
        self.assert_holds(other, (("b", 6, 6),))

    def test_what_was_told_stays(self):
        kept = kept_of((("a", 1, 1), ("b", 2, 2)))
        told = kept.points_now()
        kept.move_point("a", 9, 9)
        kept.take_point("b")
        kept.put_point("c", 0, 0)
        self.assertEqual(told, (("a", 1, 1), ("b", 2, 2)))
        self.assertEqual(kept.points_now(), (("a", 9, 9), ("c", 0, 0)))

    def test_asking_changes_nothing(self):
        kept = kept_of(SIXTY_WIDE)
        self.assert_holds(kept, SIXTY_WIDE)
        self.assert_holds(kept, SIXTY_WIDE)

    def test_kinds(self):
        kept = kept_of(MIXED)
        told = kept.points_now()
        self.assertIs(type(told), tuple)
        for point in told:
            self.assertIs(type(point), tuple)
            self.assertEqual([type(part) for part in point], [str, int, int])
        for number in (kept.below_now(2, 2), kept.above_now(0, 0), kept.pairs_now(), kept.box_now(ALL)):
            self.assertIs(type(number), int)

    def test_by_name(self):
        kept = KeptPoints()
        self.assertIsNone(kept.put_point(name="a", x=1, y=2))
        self.assertIsNone(kept.put_point(y=4, x=3, name="b"))
        self.assertIsNone(kept.put_point(name="c", x=0, y=7))
        self.assertIsNone(kept.move_point(y=6, name="b", x=5))
        self.assertIsNone(kept.take_point(name="c"))
        self.assertEqual(kept.points_now(), (("a", 1, 2), ("b", 5, 6)))
        self.assertEqual(kept.below_now(x=1, y=3), 1)
        self.assertEqual(kept.below_now(y=1, x=3), 0)
        self.assertEqual(kept.above_now(x=2, y=5), 1)
        self.assertEqual(kept.above_now(y=2, x=5), 1)
        self.assertEqual(kept.above_now(y=7, x=1), 0)
        self.assertEqual(kept.box_now(box=(1, 2, 4, 9)), 1)


class Refusing(unittest.TestCase):
    def assert_refused(self, kept, word, ask):
        before = kept.points_now()
        with self.assertRaises(NoName) as held:
            ask()
        self.assertEqual(held.exception.word, word)
        self.assertIsInstance(held.exception, BelowError)
        self.assertEqual(kept.points_now(), before)
        self.assertEqual(kept.pairs_now(), pairs_one_by_one(before))
        self.assertEqual(kept.box_now(ALL), len(before))

    def test_put_in_with_a_name_that_is_there(self):
        kept = kept_of(MIXED)
        for name, x, y in MIXED:
            self.assert_refused(kept, name, lambda: kept.put_point(name, x, y))
            self.assert_refused(kept, name, lambda: kept.put_point(name, x + 1, y - 7))
            self.assert_refused(kept, name, lambda: kept.put_point(y=0, x=0, name=name))

    def test_taken_out_or_moved_with_a_name_that_is_not_there(self):
        for points in ((), MIXED):
            kept = kept_of(points)
            for name in ("zz", "a", "aaa", "abcdefgh"):
                self.assert_refused(kept, name, lambda: kept.take_point(name))
                self.assert_refused(kept, name, lambda: kept.move_point(name, 0, 0))
                self.assert_refused(kept, name, lambda: kept.take_point(name=name))
                self.assert_refused(kept, name, lambda: kept.move_point(x=2, y=1, name=name))

    def test_behind_being_taken_out(self):
        kept = kept_of(MIXED)
        kept.take_point("ab")
        self.assert_refused(kept, "ab", lambda: kept.take_point("ab"))
        self.assert_refused(kept, "ab", lambda: kept.move_point("ab", 2, 1))
        kept.put_point("ab", 2, 1)
        self.assert_refused(kept, "ab", lambda: kept.put_point("ab", 2, 1))
        kept.move_point("ab", 3, 3)
        self.assert_refused(kept, "ab", lambda: kept.put_point("ab", 2, 1))
        self.assertEqual(kept.points_now(), MIXED[:1] + MIXED[2:] + (("ab", 3, 3),))

    def test_one_heap_does_not_know_the_names_of_another(self):
        one = kept_of(MIXED)
        other = KeptPoints()
        self.assert_refused(other, "aa", lambda: other.take_point("aa"))
        self.assertIsNone(other.put_point("aa", 1, 1))
        self.assert_refused(one, "aa", lambda: one.put_point("aa", 1, 1))


if __name__ == "__main__":
    unittest.main()
