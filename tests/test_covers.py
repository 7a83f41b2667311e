"""[16] covers of few chains, crowds of many points, and the looker at both."""

import itertools
import unittest

from belowpoints.chains.covers import cover_of, cover_shown, crowd_of
from belowpoints.chains.stairs import stairs_of
from examples import (
    FALLING, HEAPS, MIXED, NONE, ONE, RISING, RISING_BACK, SAME_PLACE, SAME_X, SAME_Y, SIXTY_FALLING, SIXTY_NARROW,
    SIXTY_RISING, SIXTY_SAME, SIXTY_WIDE, is_below, named, strewn,
)

TWO_AT_ONE_PLACE = named([(4, 4), (4, 4)])
THREE_TWICE = named([(k // 2, k // 2) for k in range(6)])
MORE = tuple(strewn(2 + seed % 9, 1 + seed % 3, 5000 + seed) for seed in range(60))
MANY = tuple(strewn(60, wide, 7000 + wide) for wide in (1, 2, 4, 7, 12, 30, 100, 1000))
ALL_HEAPS = HEAPS + MORE + MANY + (TWO_AT_ONE_PLACE, THREE_TWICE)


def names_of(points):
    return tuple(point[0] for point in points)


def by_name(points):
    return {point[0]: point for point in points}


def is_crowd(points):
    return not any(is_below(one, other) for one in points for other in points)


def most_in_a_crowd(points):
    """All crowds gone through, from the greatest on."""
    for many in range(len(points), -1, -1):
        if any(is_crowd(some) for some in itertools.combinations(points, many)):
            return many


def shown_one_by_one(points, cover, crowd):
    """What the looker is to tell, word by word as it is promised."""
    found = by_name(points)
    named_in_cover = [name for chain in cover for name in chain]
    if any(named_in_cover.count(name) != 1 for name in found) or any(name not in found for name in named_in_cover):
        return False
    for chain in cover:
        for place in range(len(chain) - 1):
            if not is_below(found[chain[place]], found[chain[place + 1]]):
                return False
    if any(name not in found or crowd.count(name) > 1 for name in crowd):
        return False
    return is_crowd([found[name] for name in crowd]) and len(cover) == len(crowd)


class Telling(unittest.TestCase):
    def assert_both_hold(self, points):
        cover = cover_of(points)
        crowd = crowd_of(points)
        found = by_name(points)
        self.assertEqual(sorted(name for chain in cover for name in chain), sorted(found))
        for chain in cover:
            self.assertNotEqual(chain, ())
            for one, other in zip(chain, chain[1:]):
                self.assertTrue(is_below(found[one], found[other]), (one, other))
        self.assertEqual(crowd, tuple(name for name in names_of(points) if name in crowd))
        self.assertTrue(is_crowd([found[name] for name in crowd]))
        self.assertEqual(len(cover), len(crowd))

    def test_none_and_one(self):
        self.assertEqual((cover_of(NONE), crowd_of(NONE)), ((), ()))
        self.assertEqual((cover_of(ONE), crowd_of(ONE)), ((("aa",),), ("aa",)))

    def test_at_one_place(self):
        for points in (TWO_AT_ONE_PLACE, SAME_PLACE, SIXTY_SAME):
            self.assertEqual(sorted(cover_of(points)), [(name,) for name in names_of(points)])
            self.assertEqual(crowd_of(points), names_of(points))

    def test_several_at_one_place_on_a_rising_line(self):
        self.assertEqual(len(cover_of(THREE_TWICE)), 2)
        self.assertIn(crowd_of(THREE_TWICE), (("aa", "ab"), ("ac", "ad"), ("ae", "af")))

    def test_on_one_rising_line(self):
        for points in (RISING, SIXTY_RISING, named([(3, k) for k in range(7)]), named([(k, 3) for k in range(7)])):
            self.assertEqual(cover_of(points), (names_of(points),))
            self.assertEqual(len(crowd_of(points)), 1)
        self.assertEqual(cover_of(RISING_BACK), (names_of(RISING_BACK)[::-1],))

    def test_on_one_falling_line(self):
        for points in (FALLING, SIXTY_FALLING):
            self.assertEqual(sorted(cover_of(points)), [(name,) for name in names_of(points)])
            self.assertEqual(crowd_of(points), names_of(points))
            self.assertEqual(crowd_of(points[::-1]), names_of(points)[::-1])

    def test_of_one_x_or_one_y_those_at_one_place_are_a_crowd(self):
        for points in (SAME_X, SAME_Y):
            self.assertEqual(len(cover_of(points)), 2)
            self.assertEqual(crowd_of(points), ("aa", "ad"))

    def test_a_crowd_greater_than_any_stair(self):
        points = (("top", 20, 11), ("p", 0, 20), ("q", 5, 10), ("r", 10, 0), ("s", 11, 1))
        self.assertEqual([len(stair) for stair in stairs_of(points)], [2, 2, 1])
        self.assertIn(crowd_of(points), (("p", "q", "r"), ("p", "q", "s")))
        self.assert_both_hold(points)

    def test_all_heaps(self):
        for points in ALL_HEAPS:
            with self.subTest(points=points):
                self.assert_both_hold(points)

    def test_few_against_all_crowds(self):
        for points in ALL_HEAPS:
            if len(points) < 12:
                with self.subTest(points=points):
                    self.assertEqual(len(crowd_of(points)), most_in_a_crowd(points))

    def test_the_order_of_the_points_is_kept(self):
        for points in MORE[:12]:
            for turned in (points[::-1], tuple(sorted(points, key=lambda point: (point[2], point[1])))):
                self.assert_both_hold(turned)
                self.assertEqual(len(crowd_of(turned)), len(crowd_of(points)))

    def test_the_same_again(self):
        for points in ALL_HEAPS:
            self.assertEqual(cover_of(points), cover_of(tuple(list(points))))
            self.assertEqual(crowd_of(points), crowd_of(tuple(list(points))))

    def test_kinds(self):
        for points in ALL_HEAPS:
            cover = cover_of(points)
            crowd = crowd_of(points)
            self.assertEqual({type(part) for part in (cover, crowd) + cover}, {tuple})
            self.assertEqual({type(name) for chain in cover + (crowd,) for name in chain} - {str}, set())
            self.assertIs(cover_shown(points, cover, crowd), True)
            self.assertIs(cover_shown(points, cover + ((),), crowd), False)

    def test_by_name(self):
        for points in (NONE, ONE, MIXED, SIXTY_WIDE):
            cover = cover_of(points=points)
            crowd = crowd_of(points=points)
            self.assertEqual((cover, crowd), (cover_of(points), crowd_of(points)))
            self.assertIs(cover_shown(crowd=crowd, cover=cover, points=points), True)
            self.assertIs(cover_shown(points=points, cover=cover, crowd=crowd + ("zz",)), False)


class Looking(unittest.TestCase):
    def assert_no(self, points, cover, crowd):
        self.assertIs(cover_shown(points, cover, crowd), False, (cover, crowd))

    def test_the_told_ones_in_any_order(self):
        for points in ALL_HEAPS:
            cover = cover_of(points)
            crowd = crowd_of(points)
            for mine in (cover, cover[::-1], cover[1:] + cover[:1], tuple(sorted(cover))):
                for other in (crowd, crowd[::-1], crowd[2:] + crowd[:2]):
                    self.assertIs(cover_shown(points, mine, other), True)

    def test_points_whose_names_do_not_rise(self):
        for points in (MIXED[::-1], SAME_PLACE[::-1], RISING[::-1], SIXTY_NARROW[::-1], (("b", 0, 0), ("a", 1, 1))):
            self.assertIs(cover_shown(points, cover_of(points), crowd_of(points)), True)

    def test_others_than_the_told_ones(self):
        points = (("a", 0, 0), ("b", 1, 1), ("c", 0, 2), ("d", 3, 1))
        for cover in ((("a", "b", "d"), ("c",)), (("a", "c"), ("b", "d")), (("b", "d"), ("a", "c"))):
            for crowd in (("b", "c"), ("c", "b"), ("c", "d"), ("d", "c")):
                self.assertIs(cover_shown(points, cover, crowd), True)
        self.assert_no(points, (("a", "b"), ("c", "d")), ("b", "c"))

    def test_none(self):
        self.assertIs(cover_shown((), (), ()), True)
        self.assert_no((), ((),), ())
        self.assert_no((), (), ("a",))
        self.assert_no((), ((),), ("a",))
        self.assert_no((), (("a",),), ("a",))

    def test_a_point_left_out(self):
        for points in (ONE, MIXED, RISING, FALLING, SIXTY_NARROW):
            cover = cover_of(points)
            crowd = crowd_of(points)
            for turn, chain in enumerate(cover):
                for at in range(len(chain)):
                    self.assert_no(points, cover[:turn] + (chain[:at] + chain[at + 1:],) + cover[turn + 1:], crowd)
        self.assert_no(FALLING, cover_of(FALLING)[1:], crowd_of(FALLING)[1:])

    def test_a_point_twice(self):
        for points in (ONE, TWO_AT_ONE_PLACE, MIXED, RISING):
            cover = cover_of(points)
            crowd = crowd_of(points)
            for name in names_of(points):
                self.assert_no(points, ((name,),) + cover, crowd)
                for turn, chain in enumerate(cover):
                    for at in range(len(chain) + 1):
                        more = chain[:at] + (name,) + chain[at:]
                        self.assert_no(points, cover[:turn] + (more,) + cover[turn + 1:], crowd)

    def test_a_point_in_two_chains_that_are_both_chains(self):
        points = (("a", 0, 0), ("b", 1, 2), ("c", 2, 1))
        self.assertIs(cover_shown(points, (("a", "b"), ("c",)), ("b", "c")), True)
        self.assert_no(points, (("a", "b"), ("a", "c")), ("b", "c"))

    def test_a_point_left_out_and_another_twice(self):
        points = (("a", 0, 0), ("b", 1, 2), ("c", 2, 1), ("d", 0, 0))
        self.assertIs(cover_shown(points, (("a", "b"), ("d", "c")), ("b", "c")), True)
        self.assert_no(points, (("a", "b"), ("a", "c")), ("b", "c"))

    def test_a_name_that_there_is_not(self):
        for points in (NONE, ONE, MIXED, FALLING):
            cover = cover_of(points)
            crowd = crowd_of(points)
            self.assert_no(points, cover + (("zz",),), crowd)
            self.assert_no(points, cover + (("zz",),), crowd + ("zz",))
            for turn, chain in enumerate(cover):
                for at in range(len(chain) + 1):
                    more = chain[:at] + ("zz",) + chain[at:]
                    self.assert_no(points, cover[:turn] + (more,) + cover[turn + 1:], crowd)
                    self.assert_no(points, cover[:turn] + (chain[:at] + ("zz",) + chain[at + 1:],) + cover[turn + 1:], crowd)
            for turn in range(len(crowd)):
                self.assert_no(points, cover, crowd[:turn] + ("zz",) + crowd[turn + 1:])
            self.assert_no(points, cover, crowd + ("zz",))

    def test_a_chain_that_is_none(self):
        self.assert_no(FALLING, (names_of(FALLING),), names_of(FALLING)[:1])
        self.assert_no(TWO_AT_ONE_PLACE, (("aa", "ab"),), ("aa",))
        self.assert_no(TWO_AT_ONE_PLACE, (("aa", "ab"), ()), ("aa", "ab"))
        points = (("a", 0, 0), ("b", 1, 1), ("c", 2, 2))
        for chain in itertools.permutations("abc"):
            self.assertIs(cover_shown(points, (chain,), ("b",)), chain == ("a", "b", "c"))
        # Only neighbours are held against one another, but the break may be anywhere.
        points = SIXTY_RISING
        names = names_of(points)
        for at in (0, 1, 30, 57, 58):
            self.assert_no(points, (names[:at] + (names[at + 1], names[at]) + names[at + 2:],), names[:1])

    def test_a_chain_the_other_way_about(self):
        self.assertIs(cover_shown(RISING, (names_of(RISING),), ("aa",)), True)
        self.assert_no(RISING, (names_of(RISING)[::-1],), ("aa",))
        self.assertIs(cover_shown(RISING_BACK, (names_of(RISING_BACK)[::-1],), ("aa",)), True)
        self.assert_no(RISING_BACK, (names_of(RISING_BACK),), ("aa",))

    def test_one_chain_more(self):
        for points in ALL_HEAPS:
            cover = cover_of(points)
            crowd = crowd_of(points)
            self.assert_no(points, cover + ((),), crowd)
            self.assert_no(points, ((),) + cover, crowd)
            for turn, chain in enumerate(cover):
                if len(chain) > 1:
                    self.assert_no(points, cover[:turn] + (chain[:1], chain[1:]) + cover[turn + 1:], crowd)

    def test_a_crowd_with_one_left_out_or_twice(self):
        for points in ALL_HEAPS:
            cover = cover_of(points)
            crowd = crowd_of(points)
            for turn in range(len(crowd)):
                left = crowd[:turn] + crowd[turn + 1:]
                self.assert_no(points, cover, left)
                self.assert_no(points, cover, crowd + crowd[turn:turn + 1])
                self.assert_no(points, cover + ((),), crowd + crowd[turn:turn + 1])
                if left:
                    self.assert_no(points, cover, left + left[:1])

    def test_two_of_a_crowd_that_lie_below_one_another(self):
        points = (("a", 0, 0), ("b", 1, 2), ("c", 2, 1))
        for crowd in (("a", "b"), ("b", "a"), ("a", "c"), ("c", "a")):
            self.assert_no(points, (("a", "b"), ("c",)), crowd)
        # As many as the chains, so that nothing but the two is amiss.
        self.assert_no(RISING, tuple((name,) for name in names_of(RISING)), names_of(RISING))
        self.assert_no(RISING, (names_of(RISING)[:4], names_of(RISING)[4:]), ("aa", "ai"))

    def test_a_crowd_beside_one_of_none(self):
        points = (("a", 0, 0), ("b", 1, 1))
        self.assertIs(cover_shown(points, (("a", "b"),), ("a",)), True)
        self.assertIs(cover_shown(points, (("a", "b"),), ("b",)), True)
        self.assert_no(points, (("a", "b"), ()), ("a", "b"))
        self.assert_no(points, (("a", "b"), ()), ("a",))
        self.assert_no(points, (("a", "b"),), ())
        self.assert_no(points, (), ())

    def test_all_small_papers(self):
        names = ("a", "b", "x")
        chains = [chain for many in range(3) for chain in itertools.product(names, repeat=many)]
        covers = [cover for many in range(4) for cover in itertools.product(chains, repeat=many) if fits(cover)]
        crowds = [crowd for many in range(4) for crowd in itertools.product(names, repeat=many)]
        for places in ((), (0,), (0, 0), (0, 1), (1, 0)):
            points = tuple((name, x, x) for name, x in zip("ab", places))
            for cover in covers:
                for crowd in crowds:
                    told = shown_one_by_one(points, cover, crowd)
                    self.assertIs(cover_shown(points, cover, crowd), told, (points, cover, crowd))

    def test_what_is_let_by_is_least_and_most(self):
        points = (("a", 0, 0), ("b", 1, 2), ("c", 2, 1), ("d", 2, 1))
        names = names_of(points)
        let_by = set()
        for order in itertools.permutations(names):
            for cuts in itertools.product((False, True), repeat=3):
                cover = cut(order, cuts)
                for many in range(5):
                    for crowd in itertools.permutations(names, many):
                        told = cover_shown(points, cover, crowd)
                        self.assertIs(told, shown_one_by_one(points, cover, crowd))
                        if told:
                            let_by.add((len(cover), len(crowd)))
        self.assertEqual(let_by, {(3, 3)})


def fits(cover):
    return sum(len(chain) for chain in cover) < 4


def cut(order, cuts):
    chains = [order[:1]]
    for name, is_cut in zip(order[1:], cuts):
        if is_cut:
            chains.append((name,))
        else:
            chains[-1] = chains[-1] + (name,)
    return tuple(chains)


if __name__ == "__main__":
    unittest.main()
