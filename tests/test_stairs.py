"""[14] stairs, [15] chains, [17] weights and how many chains there are of each length."""

import math
import unittest

from belowpoints.chains.stairs import chains_of_each, heaviest_chain, longest_chains, stair_of_each, stairs_of
from examples import (
    FALLING, GREAT, HEAPS, MIXED, NONE, ONE, RISING, RISING_BACK, SAME_PLACE, SAME_X, SAME_Y, SIXTY_FALLING,
    SIXTY_MIDDLE, SIXTY_NARROW, SIXTY_RISING, SIXTY_SAME, SIXTY_WIDE, is_below, named, strewn,
)

SIXTY = (SIXTY_WIDE, SIXTY_NARROW, SIXTY_MIDDLE, SIXTY_RISING, SIXTY_FALLING, SIXTY_SAME)
FEW = tuple(points for points in HEAPS if len(points) < 13)


def names_of(points):
    return tuple(point[0] for point in points)


def stairs_one_by_one(points):
    left = list(enumerate(points))
    stairs = []
    while left:
        best = [one for one in left if not any(is_below(one[1], other[1]) for other in left)]
        left = [one for one in left if one not in best]
        best.sort(key=lambda one: (one[1][1], -one[1][2], one[0]))
        stairs.append(tuple(point[0] for turn, point in best))
    return tuple(stairs)


def all_chains(points):
    """Each chain, as a tuple of turns, gone through one by one."""
    chains = [(turn,) for turn in range(len(points))]
    for chain in chains:
        for turn, point in enumerate(points):
            if is_below(points[chain[-1]], point):
                chains.append(chain + (turn,))
    return chains


def longest_one_by_one(points):
    chains = [()] + all_chains(points)
    length = max(len(chain) for chain in chains)
    longest = [chain for chain in chains if len(chain) == length]
    return (length, len(longest), names_of(points[turn] for turn in min(longest)))


def heaviest_one_by_one(points, weights):
    heavy = [(sum(weights[points[turn][0]] for turn in chain), chain) for chain in all_chains(points)]
    weight = max([weight for weight, chain in heavy], default=0)
    first = min([chain for mine, chain in heavy if mine == weight], default=())
    return (weight, names_of(points[turn] for turn in first))


def weights_by(points, rule):
    return {point[0]: rule(turn) for turn, point in enumerate(points)}


RULES = (
    lambda turn: 0, lambda turn: 1, lambda turn: turn % 2, lambda turn: turn % 3, lambda turn: turn * 5 % 7,
    lambda turn: 9999999999, lambda turn: 9999999999 * (turn % 2), lambda turn: (turn * turn * 7919) % 11,
    lambda turn: max(0, 3 - turn), lambda turn: max(0, turn - 3),
)


class Stairs(unittest.TestCase):
    def test_written_out(self):
        told = (
            (NONE, ()),
            (ONE, (("aa",),)),
            (SAME_PLACE, (("aa", "ab", "ac", "ad", "ae"),)),
            (MIXED, (("ae", "af"), ("ac", "ab", "ad"), ("ah",), ("aa", "ag"))),
            (SAME_X, (("aa", "ad"), ("ac",), ("ab",), ("af",), ("ae",))),
            (SAME_Y, (("aa", "ad"), ("ac",), ("ab",), ("af",), ("ae",))),
            (RISING, tuple((name,) for name in names_of(RISING)[::-1])),
            (RISING_BACK, tuple((name,) for name in names_of(RISING_BACK))),
            (FALLING, (names_of(FALLING),)),
            (FALLING[::-1], (names_of(FALLING),)),
            (GREAT, (("ac",), ("af", "aa"), ("ab", "ae", "ag"), ("ad",))),
        )
        for points, stairs in told:
            with self.subTest(points=points):
                self.assertEqual(stairs_of(points), stairs)
                self.assertEqual(stairs_of(points=points), stairs)

    def test_one_place_as_told_and_not_by_name(self):
        points = (("c", 1, 1), ("a", 1, 1), ("d", 0, 2), ("b", 1, 1), ("e", 2, 0))
        self.assertEqual(stairs_of(points), (("d", "c", "a", "b", "e"),))

    def test_sixty(self):
        names = names_of(SIXTY_RISING)
        self.assertEqual(stairs_of(SIXTY_RISING), tuple((name,) for name in names[::-1]))
        self.assertEqual(stairs_of(SIXTY_FALLING), (names,))
        self.assertEqual(stairs_of(SIXTY_SAME), (names,))

    def test_against_taking_the_best_away_one_by_one(self):
        for points in HEAPS:
            with self.subTest(points=points):
                stairs = stairs_one_by_one(points)
                self.assertEqual(stairs_of(points), stairs)
                by_name = {name: turn for turn, stair in enumerate(stairs) for name in stair}
                self.assertEqual(stair_of_each(points), by_name)
                self.assertEqual(stair_of_each(points=points), by_name)

    def test_stair_of_each_written_out(self):
        self.assertEqual(stair_of_each(NONE), {})
        self.assertEqual(stair_of_each(ONE), {"aa": 0})
        self.assertEqual(stair_of_each(SAME_PLACE), dict.fromkeys(names_of(SAME_PLACE), 0))
        self.assertEqual(
            stair_of_each(MIXED), {"aa": 3, "ab": 1, "ac": 1, "ad": 1, "ae": 0, "af": 0, "ag": 3, "ah": 2})

    def test_a_told_dict_is_the_askers_own(self):
        told = stair_of_each(MIXED)
        before = dict(told)
        told["aa"] = 99
        told["new"] = 1
        told.pop("ab")
        self.assertEqual(stair_of_each(MIXED), before)
        told = stair_of_each(NONE)
        told["new"] = 1
        self.assertEqual(stair_of_each(NONE), {})

    def test_kinds(self):
        for points in HEAPS:
            stairs = stairs_of(points)
            self.assertIs(type(stairs), tuple)
            for stair in stairs:
                self.assertIs(type(stair), tuple)
                self.assertEqual({type(name) for name in stair}, {str})
            by_name = stair_of_each(points)
            self.assertIs(type(by_name), dict)
            self.assertEqual([type(turn) for turn in by_name.values()], [int] * len(points))


class Longest(unittest.TestCase):
    def test_written_out(self):
        told = (
            (NONE, (0, 1, ())),
            (ONE, (1, 1, ("aa",))),
            (SAME_PLACE, (1, 5, ("aa",))),
            (MIXED, (4, 6, ("aa", "ah", "ab", "af"))),
            (SAME_X, (5, 2, ("ae", "af", "ab", "ac", "aa"))),
            (SAME_Y, (5, 2, ("ae", "af", "ab", "ac", "aa"))),
            (RISING, (9, 1, names_of(RISING))),
            (RISING_BACK, (9, 1, names_of(RISING_BACK)[::-1])),
            (FALLING, (1, 9, ("aa",))),
            (named([(0, 0), (1, 1), (1, 1), (2, 2)]), (3, 2, ("aa", "ab", "ad"))),
        )
        for points, longest in told:
            with self.subTest(points=points):
                self.assertEqual(longest_chains(points), longest)
                self.assertEqual(longest_chains(points=points), longest)

    def test_the_first_goes_by_the_points_order_from_the_lowest_on(self):
        # The first point of all stands in a longest chain, but behind one that comes later.
        points = (("a", 1, 1), ("b", 0, 5), ("c", 1, 0), ("d", 0, 6))
        self.assertEqual(longest_chains(points), (2, 2, ("b", "d")))
        points = (("z", 5, 5), ("y", 0, 1), ("a", 1, 0), ("b", 9, 9))
        self.assertEqual(longest_chains(points), (3, 2, ("y", "z", "b")))
        points = (("p", 3, 3), ("q", 0, 0), ("r", 2, 1), ("s", 1, 2))
        self.assertEqual(longest_chains(points), (3, 2, ("q", "r", "p")))

    def test_sixty(self):
        self.assertEqual(longest_chains(SIXTY_RISING), (60, 1, names_of(SIXTY_RISING)))
        self.assertEqual(longest_chains(SIXTY_RISING[::-1]), (60, 1, names_of(SIXTY_RISING)))
        self.assertEqual(longest_chains(SIXTY_FALLING), (1, 60, ("aa",)))
        self.assertEqual(longest_chains(SIXTY_SAME), (1, 60, ("aa",)))

    def test_very_many(self):
        # Twenty places, three points at each.
        points = named([(turn // 3, turn // 3) for turn in range(60)])
        self.assertEqual(longest_chains(points), (20, 3 ** 20, names_of(points[::3])))

    def test_against_all_chains_one_by_one(self):
        for points in FEW:
            with self.subTest(points=points):
                self.assertEqual(longest_chains(points), longest_one_by_one(points))

    def test_as_long_as_there_are_stairs(self):
        for points in HEAPS:
            length, many, chain = longest_chains(points)
            self.assertEqual(length, len(stairs_one_by_one(points)))
            self.assertEqual(len(chain), length)
            by_name = {point[0]: point for point in points}
            for one, other in zip(chain, chain[1:]):
                self.assertTrue(is_below(by_name[one], by_name[other]))

    def test_kinds(self):
        for points in HEAPS:
            told = longest_chains(points)
            self.assertEqual([type(part) for part in (told,) + told], [tuple, int, int, tuple])
            self.assertEqual({type(name) for name in told[2]} - {str}, set())


class Heaviest(unittest.TestCase):
    def assert_heaviest(self, points, weights, told):
        with self.subTest(points=points, weights=weights):
            before = list(weights.items())
            self.assertEqual(heaviest_chain(points, weights), told)
            self.assertEqual(heaviest_chain(points=points, weights=weights), told)
            self.assertEqual(heaviest_chain(weights=weights, points=points), told)
            self.assertEqual(list(weights.items()), before)

    def test_none_and_one(self):
        self.assert_heaviest(NONE, {}, (0, ()))
        self.assert_heaviest(ONE, {"aa": 0}, (0, ("aa",)))
        self.assert_heaviest(ONE, {"aa": 9999999999}, (9999999999, ("aa",)))

    def test_one_place(self):
        names = names_of(SAME_PLACE)
        self.assert_heaviest(SAME_PLACE, dict(zip(names, (1, 3, 2, 3, 0))), (3, ("ab",)))
        self.assert_heaviest(SAME_PLACE, dict.fromkeys(names, 0), (0, ("aa",)))

    def test_rising_and_falling(self):
        names = names_of(RISING)
        self.assert_heaviest(RISING, dict.fromkeys(names, 2), (18, names))
        self.assert_heaviest(RISING_BACK, dict.fromkeys(names, 2), (18, names[::-1]))
        self.assert_heaviest(FALLING, dict.fromkeys(names, 2), (2, ("aa",)))
        self.assert_heaviest(FALLING, dict(zip(names, (1, 2, 3, 9, 4, 9, 0, 8, 7))), (9, ("ad",)))

    def test_of_weights_0_the_first_point_alone(self):
        for points in HEAPS:
            if points:
                self.assert_heaviest(points, dict.fromkeys(names_of(points), 0), (0, (points[0][0],)))

    def test_a_shorter_one_that_begins_a_longer_one_comes_ahead(self):
        points = (("a", 0, 0), ("b", 1, 1), ("c", 2, 2))
        self.assert_heaviest(points, {"a": 5, "b": 0, "c": 0}, (5, ("a",)))
        self.assert_heaviest(points, {"a": 5, "b": 3, "c": 0}, (8, ("a", "b")))
        self.assert_heaviest(points, {"a": 5, "b": 0, "c": 3}, (8, ("a", "b", "c")))
        self.assert_heaviest(points, {"a": 0, "b": 0, "c": 3}, (3, ("a", "b", "c")))
        self.assert_heaviest(points[::-1], {"a": 0, "b": 0, "c": 3}, (3, ("c",)))
        self.assert_heaviest(points[::-1], {"a": 3, "b": 0, "c": 0}, (3, ("a",)))
        self.assert_heaviest(points[::-1], {"a": 3, "b": 0, "c": 2}, (5, ("a", "c")))

    def test_a_longer_one_comes_ahead_by_the_points_order(self):
        points = (("n", 0, 0), ("m", 9, 9), ("o", 5, 5))
        self.assert_heaviest(points, {"n": 1, "m": 4, "o": 0}, (5, ("n", "m")))
        points = (("n", 9, 9), ("m", 0, 0), ("o", 5, 5))
        self.assert_heaviest(points, {"n": 4, "m": 1, "o": 0}, (5, ("m", "n")))
        points = (("o", 5, 5), ("n", 9, 9), ("m", 0, 0))
        self.assert_heaviest(points, {"n": 4, "m": 1, "o": 0}, (5, ("m", "o", "n")))

    def test_of_several_the_first(self):
        points = (("p", 3, 3), ("q", 0, 0), ("r", 2, 1), ("s", 1, 2))
        self.assert_heaviest(points, {"p": 1, "q": 1, "r": 1, "s": 1}, (3, ("q", "r", "p")))
        self.assert_heaviest(points, {"p": 1, "q": 1, "r": 1, "s": 2}, (4, ("q", "s", "p")))
        self.assert_heaviest(points, {"p": 1, "q": 0, "r": 2, "s": 2}, (3, ("q", "r", "p")))

    def test_the_heaviest_is_not_the_longest(self):
        points = (("a", 0, 0), ("b", 1, 1), ("c", 2, 2), ("d", 9, -9))
        self.assert_heaviest(points, {"a": 1, "b": 1, "c": 1, "d": 4}, (4, ("d",)))
        self.assert_heaviest(points, {"a": 1, "b": 1, "c": 1, "d": 3}, (3, ("a", "b", "c")))

    def test_great_weights(self):
        names = names_of(SIXTY_RISING)
        self.assert_heaviest(SIXTY_RISING, dict.fromkeys(names, 9999999999), (599999999940, names))

    def test_against_all_chains_one_by_one(self):
        for points in FEW:
            for rule in RULES:
                weights = weights_by(points, rule)
                self.assert_heaviest(points, weights, heaviest_one_by_one(points, weights))

    def test_sixty_with_weights_of_one_is_the_longest(self):
        for points in SIXTY:
            length, many, chain = longest_chains(points)
            self.assert_heaviest(points, dict.fromkeys(names_of(points), 1), (length, chain))

    def test_kinds(self):
        for points in HEAPS:
            told = heaviest_chain(points, weights_by(points, lambda turn: turn % 4))
            self.assertEqual([type(part) for part in (told,) + told], [tuple, int, tuple])
            self.assertEqual({type(name) for name in told[1]} - {str}, set())


class OfEach(unittest.TestCase):
    def test_written_out(self):
        told = (
            (NONE, ()),
            (ONE, (1,)),
            (SAME_PLACE, (5,)),
            (FALLING, (9,)),
            (RISING, (9, 36, 84, 126, 126, 84, 36, 9, 1)),
            (RISING_BACK, (9, 36, 84, 126, 126, 84, 36, 9, 1)),
            (MIXED, (8, 17, 17, 6)),
            (named([(0, 0), (1, 1), (1, 1), (2, 2)]), (4, 5, 2)),
        )
        for points, many in told:
            with self.subTest(points=points):
                self.assertEqual(chains_of_each(points), many)
                self.assertEqual(chains_of_each(points=points), many)

    def test_sixty(self):
        self.assertEqual(chains_of_each(SIXTY_RISING), tuple(math.comb(60, length) for length in range(1, 61)))
        self.assertEqual(chains_of_each(SIXTY_FALLING), (60,))
        self.assertEqual(chains_of_each(SIXTY_SAME), (60,))
        points = named([(turn // 3, turn // 3) for turn in range(60)])
        self.assertEqual(chains_of_each(points), tuple(math.comb(20, many) * 3 ** many for many in range(1, 21)))

    def test_against_all_chains_one_by_one(self):
        for points in FEW:
            lengths = [len(chain) for chain in all_chains(points)]
            many = tuple(lengths.count(length) for length in range(1, max(lengths, default=0) + 1))
            with self.subTest(points=points):
                self.assertEqual(chains_of_each(points), many)

    def test_held_against_the_longest(self):
        for points in HEAPS:
            if points:
                self.assertEqual((len(chains_of_each(points)), chains_of_each(points)[-1]), longest_chains(points)[:2])
                self.assertEqual(chains_of_each(points)[0], len(points))

    def test_kinds_and_again(self):
        for points in HEAPS:
            told = chains_of_each(points)
            self.assertIs(type(told), tuple)
            self.assertEqual({type(many) for many in told} - {int}, set())
            self.assertEqual(chains_of_each(points), told)


class MoreHeaps(unittest.TestCase):
    def test_few_points_strewn_narrowly(self):
        for seed in range(40):
            points = strewn(3 + seed % 8, 1 + seed % 3, 1000 + seed)
            weights = weights_by(points, lambda turn: (turn * 31 + seed) % 4)
            with self.subTest(points=points):
                self.assertEqual(longest_chains(points), longest_one_by_one(points))
                self.assertEqual(heaviest_chain(points, weights), heaviest_one_by_one(points, weights))
                self.assertEqual(stairs_of(points), stairs_one_by_one(points))


if __name__ == "__main__":
    unittest.main()
