"""[9] trees of sums, [10] places of numbers."""

import unittest

from belowpoints.counts.sums import SumTree, places_of
from belowpoints.errors import BelowError, NoPlace

SIZES = (1, 2, 3, 4, 5, 7, 8, 9, 15, 16, 17, 31, 32, 33)
GREAT_SIZES = (63, 64, 65, 127, 128, 129, 199, 200)
GREAT = 9999999999


def lowest_bit_by_halving(number):
    bit = 1
    while number % (2 * bit) == 0:
        bit *= 2
    return bit


def cells_one_by_one(row):
    return tuple(sum(row[cell - lowest_bit_by_halving(cell):cell]) for cell in range(1, len(row) + 1))


def least_one_by_one(row, number):
    for many in range(len(row) + 1):
        if sum(row[:many]) >= number:
            return many
    return None


def puts_for(many):
    """Numbers put at places of a row of so many: first, last, middle, twice, below 0, great."""
    middle = (many + 1) // 2
    return (
        (1, 5), (many, 7), (middle, -3), (middle, 11), (1, -GREAT), (many, GREAT), (many, 0), (1, -5),
        (max(many - 1, 1), 2), (min(2, many), 1), (middle, -8),
    )


class Telling(unittest.TestCase):
    def assert_ends(self, tree, row):
        self.assertEqual(tree.row_now(), tuple(row))
        self.assertEqual(tree.cells_now(), cells_one_by_one(row))
        for many in range(len(row) + 1):
            self.assertEqual(tree.sum_of_first(many), sum(row[:many]))
        for place in range(1, len(row) + 1):
            self.assertEqual(tree.number_at(place), row[place - 1])

    def assert_all(self, tree, row):
        self.assert_ends(tree, row)
        for first in range(1, len(row) + 1):
            for last in range(1, len(row) + 1):
                self.assertEqual(tree.sum_from_to(first, last), sum(row[first - 1:last]), (first, last))

    def test_at_first_all_are_0(self):
        for many in SIZES + GREAT_SIZES:
            with self.subTest(many=many):
                self.assert_ends(SumTree(many), [0] * many)
                self.assertEqual(SumTree(many).row_now(), (0,) * many)
                self.assertEqual(SumTree(many).cells_now(), (0,) * many)

    def test_behind_each_put(self):
        for many in SIZES:
            tree = SumTree(many)
            row = [0] * many
            for place, number in puts_for(many):
                with self.subTest(many=many, place=place, number=number):
                    self.assertIsNone(tree.put_to(place, number))
                    row[place - 1] += number
                    self.assert_all(tree, row)

    def test_great_trees(self):
        for many in GREAT_SIZES:
            tree = SumTree(many)
            row = [0] * many
            for place, number in puts_for(many):
                self.assertIsNone(tree.put_to(place, number))
                row[place - 1] += number
                self.assert_ends(tree, row)
            for place in range(1, many + 1):
                number = (-1) ** place * (place * place * 7919 % 1000)
                tree.put_to(place, number)
                row[place - 1] += number
            with self.subTest(many=many):
                self.assert_all(tree, row)

    def test_each_place_by_itself(self):
        for many in SIZES + (200,):
            for place in range(1, many + 1):
                tree = SumTree(many)
                tree.put_to(place, -4)
                row = [0] * many
                row[place - 1] = -4
                self.assertEqual(tree.row_now(), tuple(row))
                self.assertEqual(tree.cells_now(), cells_one_by_one(row))
                self.assertEqual(tree.sum_of_first(many), -4)
                self.assertEqual(tree.sum_of_first(place - 1), 0)

    def test_written_out(self):
        tree = SumTree(6)
        for place, number in ((1, 1), (2, 2), (3, 3), (4, 4), (5, 5), (6, 6)):
            tree.put_to(place, number)
        self.assertEqual(tree.row_now(), (1, 2, 3, 4, 5, 6))
        self.assertEqual(tree.cells_now(), (1, 3, 3, 10, 5, 11))
        self.assertEqual(tree.sum_of_first(5), 15)
        self.assertEqual(tree.sum_from_to(2, 4), 9)
        self.assertEqual(tree.sum_from_to(4, 4), 4)
        self.assertEqual(tree.sum_from_to(4, 3), 0)
        self.assertEqual(tree.sum_from_to(6, 1), 0)

    def test_a_row_of_great_numbers(self):
        tree = SumTree(200)
        for place in range(1, 201):
            tree.put_to(place, GREAT)
        self.assertEqual(tree.sum_of_first(200), 200 * GREAT)
        self.assertEqual(tree.cells_now()[127], 128 * GREAT)

    def test_somewhat_more_than_is_bounded(self):
        tree = SumTree(201)
        tree.put_to(201, 10 ** 13)
        self.assertEqual(tree.row_now(), (0,) * 200 + (10 ** 13,))

    def test_kinds(self):
        tree = SumTree(3)
        tree.put_to(2, 5)
        for told in (tree.row_now(), tree.cells_now()):
            self.assertIs(type(told), tuple)
            self.assertEqual([type(number) for number in told], [int] * 3)
        numbers = (
            tree.sum_of_first(0), tree.sum_of_first(3), tree.sum_from_to(1, 3), tree.sum_from_to(3, 1),
            tree.number_at(1), tree.number_at(2), tree.least_many(0), tree.least_many(5),
        )
        self.assertEqual([type(number) for number in numbers], [int] * 8)

    def test_two_trees_by_turns(self):
        one = SumTree(5)
        other = SumTree(5)
        third = SumTree(9)
        rows = ([0] * 5, [0] * 5, [0] * 9)
        for turn in range(30):
            tree = (one, other, third)[turn % 3]
            place = turn * 7 % 5 + 1
            tree.put_to(place, turn - 12)
            rows[turn % 3][place - 1] += turn - 12
            self.assert_all(one, rows[0])
            self.assert_all(other, rows[1])
            self.assert_all(third, rows[2])

    def test_told_tuples_stay_as_they_were_told(self):
        tree = SumTree(4)
        tree.put_to(2, 5)
        row = tree.row_now()
        cells = tree.cells_now()
        tree.put_to(2, 1)
        tree.put_to(1, 9)
        self.assertEqual(row, (0, 5, 0, 0))
        self.assertEqual(cells, (0, 5, 0, 5))
        self.assertEqual(tree.row_now(), (9, 6, 0, 0))
        self.assertEqual(tree.cells_now(), (9, 15, 0, 15))

    def test_asking_changes_nothing(self):
        tree = SumTree(5)
        tree.put_to(3, 4)
        for again in range(2):
            self.assert_all(tree, [0, 0, 4, 0, 0])
            self.assertEqual(tree.least_many(1), 3)
            self.assertIsNone(tree.least_many(5))

    def test_by_name(self):
        tree = SumTree(many=4)
        self.assertIsNone(tree.put_to(place=2, number=5))
        self.assertIsNone(tree.put_to(number=3, place=4))
        self.assertEqual(tree.sum_of_first(many=3), 5)
        self.assertEqual(tree.sum_from_to(first=2, last=4), 8)
        self.assertEqual(tree.sum_from_to(last=3, first=3), 0)
        self.assertEqual(tree.number_at(place=4), 3)
        self.assertEqual(tree.least_many(number=6), 4)


class Refusing(unittest.TestCase):
    def assert_refused(self, tree, ask):
        row = tree.row_now()
        cells = tree.cells_now()
        with self.assertRaises(NoPlace) as held:
            ask()
        self.assertIsInstance(held.exception, BelowError)
        self.assertIs(type(str(held.exception)), str)
        self.assertEqual(tree.row_now(), row)
        self.assertEqual(tree.cells_now(), cells)

    def filled(self, many):
        tree = SumTree(many)
        for place in range(1, many + 1):
            tree.put_to(place, place * place - 3)
        return tree

    def test_places_that_are_none(self):
        for many in (1, 2, 3, 4, 7, 8, 9, 200):
            tree = self.filled(many)
            for place in (0, -1, -2, -many, -many - 1, many + 1, many + 2, 2 * many + 2, 10 ** 13, -10 ** 13):
                with self.subTest(many=many, place=place):
                    self.assert_refused(tree, lambda: tree.put_to(place, 5))
                    self.assert_refused(tree, lambda: tree.put_to(place, 0))
                    self.assert_refused(tree, lambda: tree.number_at(place))

    def test_either_end_or_both(self):
        for many in (1, 2, 3, 4, 8, 200):
            tree = self.filled(many)
            none = (0, -1, -many, many + 1, 10 ** 13, -10 ** 13)
            for place in none:
                for good in (1, many, (many + 1) // 2):
                    with self.subTest(many=many, place=place, good=good):
                        self.assert_refused(tree, lambda: tree.sum_from_to(place, good))
                        self.assert_refused(tree, lambda: tree.sum_from_to(good, place))
                for other in none:
                    with self.subTest(many=many, place=place, other=other):
                        self.assert_refused(tree, lambda: tree.sum_from_to(place, other))

    def test_the_second_less_and_none(self):
        tree = self.filled(4)
        for first, last in ((1, 0), (4, 0), (5, 4), (5, 1), (5, 0), (0, -1), (6, 5), (2, -1)):
            self.assert_refused(tree, lambda: tree.sum_from_to(first, last))

    def test_how_many_that_are_none(self):
        for many in (1, 2, 3, 4, 8, 200):
            tree = self.filled(many)
            for asked in (-1, -2, -many - 1, many + 1, many + 2, 2 * many + 1, 10 ** 13, -10 ** 13):
                with self.subTest(many=many, asked=asked):
                    self.assert_refused(tree, lambda: tree.sum_of_first(asked))

    def test_by_name(self):
        tree = self.filled(3)
        self.assert_refused(tree, lambda: tree.put_to(place=4, number=1))
        self.assert_refused(tree, lambda: tree.put_to(number=1, place=0))
        self.assert_refused(tree, lambda: tree.number_at(place=0))
        self.assert_refused(tree, lambda: tree.sum_of_first(many=4))
        self.assert_refused(tree, lambda: tree.sum_from_to(last=4, first=1))


class LeastMany(unittest.TestCase):
    def assert_least(self, row):
        tree = SumTree(len(row))
        for place, number in enumerate(row, start=1):
            tree.put_to(place, number)
        asked = [-10 ** 13, -1, 0, 1, sum(row) + 1, sum(row) + 2, 10 ** 13]
        for many in range(len(row) + 1):
            asked.extend((sum(row[:many]) - 1, sum(row[:many]), sum(row[:many]) + 1))
        for number in asked:
            with self.subTest(row=row, number=number):
                told = tree.least_many(number)
                self.assertEqual(told, least_one_by_one(row, number))
                self.assertEqual(told is None, number > sum(row))

    def test_rows(self):
        rows = (
            (0,), (1,), (5,), (0, 0), (0, 3), (3, 0), (1, 1), (0, 0, 0), (0, 2, 0), (2, 0, 0), (0, 0, 2), (4, 5, 6),
            (0, 0, 3, 0, 0, 2, 0), (1,) * 8, (2, 0) * 8, (0, 2) * 8, (GREAT, 0, GREAT), (0,) * 16 + (1,),
            (1,) + (0,) * 16, (3, 1, 4, 1, 5, 9, 2, 6, 5, 3, 5, 8, 9, 7, 9),
        )
        for row in rows:
            self.assert_least(row)

    def test_two_hundred(self):
        self.assert_least(tuple(place * 7919 % 5 for place in range(200)))
        self.assert_least((0,) * 199 + (GREAT,))
        self.assert_least((GREAT,) * 200)

    def test_written_out(self):
        tree = SumTree(5)
        for place, number in ((2, 3), (4, 2)):
            tree.put_to(place, number)
        asked = (-1, 0, 1, 3, 4, 5, 6)
        self.assertEqual([tree.least_many(number) for number in asked], [0, 0, 2, 2, 4, 4, None])

    def test_behind_numbers_put_below_0(self):
        tree = SumTree(4)
        for place, number in ((1, 5), (1, -5), (3, 9), (3, -7)):
            tree.put_to(place, number)
        self.assertEqual([tree.least_many(number) for number in (0, 1, 2, 3)], [0, 3, 3, None])


class Placing(unittest.TestCase):
    def test_written_out(self):
        told = (
            ((), ((), ())),
            ((7,), ((7,), (1,))),
            ((-7,), ((-7,), (1,))),
            ((0, 0, 0), ((0,), (1, 1, 1))),
            ((1, 2, 3), ((1, 2, 3), (1, 2, 3))),
            ((3, 2, 1), ((1, 2, 3), (3, 2, 1))),
            ((5, -5, 5, 0, -5), ((-5, 0, 5), (3, 1, 3, 2, 1))),
            ((10, 9, 100, -10, -9), ((-10, -9, 9, 10, 100), (4, 3, 5, 1, 2))),
            ((GREAT, -GREAT, GREAT - 1), ((-GREAT, GREAT - 1, GREAT), (3, 1, 2))),
        )
        for numbers, pair in told:
            with self.subTest(numbers=numbers):
                self.assertEqual(places_of(numbers), pair)
                self.assertEqual(places_of(numbers=numbers), pair)

    def test_against_going_through_all(self):
        for wide in (1, 3, 50, 10 ** 9):
            numbers = tuple(turn * turn * 7919 % (2 * wide + 1) - wide for turn in range(200))
            unlike, places = places_of(numbers)
            for one, other in zip(unlike, unlike[1:]):
                self.assertLess(one, other)
            for number in unlike:
                self.assertIn(number, numbers)
            self.assertEqual(len(places), 200)
            for number, place in zip(numbers, places):
                self.assertGreaterEqual(place, 1)
                self.assertEqual(unlike[place - 1], number)

    def test_kinds_and_again(self):
        for numbers in ((), (4,), (2, -2, 2)):
            told = places_of(numbers)
            self.assertEqual([type(part) for part in (told,) + told], [tuple] * 3)
            self.assertEqual({type(number) for part in told for number in part} - {int}, set())
            self.assertEqual(places_of(numbers), told)


if __name__ == "__main__":
    unittest.main()
