"""[19] rows and their counts, [20] all rows of a length by how many they have in all."""

import itertools
import math
import unittest

from belowpoints.counts.pairs import below_each
from belowpoints.errors import BelowError, NoCounts, NoPlace
from belowpoints.rows import count_of, counts_of, nth_row, place_of_row, row_of, rows_with
from examples import named

MOST = 9999999999


def counts_one_by_one(row):
    return tuple(sum(1 for ahead in range(place) if row[ahead] > row[place]) for place in range(len(row)))


def turned(many, step):
    """The numbers 1 to many in a mixed order: step and many + 1 have no common part."""
    return tuple(place * step % (many + 1) for place in range(1, many + 1))


RISING = tuple(range(200))
FALLING = tuple(range(200, 0, -1))
MIXED = (turned(12, 5), turned(58, 17), turned(198, 37), turned(200, 7))
ROWS = ((), (5,), (1, 2), (2, 1), (3, 1, 2), (-3, -1, -2), (0, -5, 7, 3, -9), (MOST, -MOST, 0, 1 - MOST)) + MIXED
LONG = (RISING, FALLING, tuple(-number for number in RISING), tuple(number * 7919 % 10007 - 5000 for number in range(1, 201)))


def all_rows(many):
    return list(itertools.permutations(range(1, many + 1)))


def rows_by_count(many):
    """Of each how many in all the rows, in the order of their counts: gone through one by one."""
    by_count = [[] for count in range(many * (many - 1) // 2 + 1)]
    for row in all_rows(many):
        by_count[sum(counts_one_by_one(row))].append(row)
    return [sorted(rows, key=counts_one_by_one) for rows in by_count]


class Counts(unittest.TestCase):
    def test_written_out(self):
        told = (
            ((), ()),
            ((5,), (0,)),
            ((1, 2), (0, 0)),
            ((2, 1), (0, 1)),
            ((3, 1, 2), (0, 1, 1)),
            ((2, 3, 1), (0, 0, 2)),
            ((3, 2, 1), (0, 1, 2)),
            ((-3, -1, -2), (0, 0, 1)),
            ((0, -5, 7, 3, -9), (0, 1, 0, 1, 4)),
            ((MOST, -MOST, 0, 1 - MOST), (0, 1, 1, 2)),
        )
        for row, counts in told:
            with self.subTest(row=row):
                self.assertEqual(counts_of(row), counts)
                self.assertEqual(counts_of(row=row), counts)
                self.assertEqual(count_of(row), sum(counts))
                self.assertEqual(count_of(row=row), sum(counts))

    def test_rows_of_two_hundred(self):
        self.assertEqual(counts_of(RISING), (0,) * 200)
        self.assertEqual(count_of(RISING), 0)
        self.assertEqual(counts_of(FALLING), tuple(range(200)))
        self.assertEqual(count_of(FALLING), 19900)

    def test_one_by_one(self):
        for row in ROWS + LONG + tuple(all_rows(5)):
            self.assertEqual(len(set(row)), len(row))
            self.assertEqual(counts_of(row), counts_one_by_one(row))
            self.assertEqual(count_of(row), sum(counts_one_by_one(row)))

    def test_a_row_as_points(self):
        # What is ahead of a place and not greater lies below it.
        for row in ROWS + LONG:
            points = named(enumerate(row))
            self.assertEqual(tuple(map(sum, zip(below_each(points), counts_of(row)))), tuple(range(len(row))))

    def test_kinds_and_again(self):
        for row in ROWS + LONG:
            self.assertIs(type(counts_of(row)), tuple)
            self.assertEqual({type(count) for count in counts_of(row)} - {int}, set())
            self.assertIs(type(count_of(row)), int)
            self.assertEqual(counts_of(row), counts_of(row))


class Back(unittest.TestCase):
    def assert_refused(self, counts, row):
        for ask in (lambda: row_of(counts), lambda: row_of(counts=counts)):
            with self.assertRaises(NoCounts) as held:
                ask()
            self.assertEqual(held.exception.row, row)
            self.assertIs(type(held.exception.row), int)
            self.assertIsInstance(held.exception, BelowError)

    def test_written_out(self):
        told = (
            ((), ()),
            ((0,), (1,)),
            ((0, 0), (1, 2)),
            ((0, 1), (2, 1)),
            ((0, 1, 1), (3, 1, 2)),
            ((0, 0, 2), (2, 3, 1)),
            ((0, 0, 1), (1, 3, 2)),
            ((0, 1, 0), (2, 1, 3)),
        )
        for counts, row in told:
            with self.subTest(counts=counts):
                self.assertEqual(row_of(counts), row)
                self.assertEqual(row_of(counts=counts), row)

    def test_counts_of_nought_and_the_greatest(self):
        for many in (0, 1, 2, 3, 12, 60, 200):
            self.assertEqual(row_of((0,) * many), tuple(range(1, many + 1)))
            self.assertEqual(row_of(tuple(range(many))), tuple(range(many, 0, -1)))

    def test_all_counts_there_and_back(self):
        for many in range(7):
            rows = [row_of(counts) for counts in itertools.product(*(range(place + 1) for place in range(many)))]
            self.assertEqual(sorted(rows), all_rows(many))
            for row in rows:
                self.assertEqual(row_of(counts_of(row)), row)

    def test_long_counts_there_and_back(self):
        for many, step in ((200, 3), (200, 77), (199, 50), (61, 13)):
            counts = tuple(place * step % (place + 1) for place in range(many))
            row = row_of(counts)
            self.assertEqual(sorted(row), list(range(1, many + 1)))
            self.assertEqual(counts_one_by_one(row), counts)
        for row in LONG:
            ranks = tuple(sorted(row).index(number) + 1 for number in row)
            self.assertEqual(row_of(counts_of(row)), ranks)

    def test_refused_below_nought(self):
        self.assert_refused((-1,), 0)
        self.assert_refused((0, -1), 1)
        self.assert_refused((0, 1, 2, -1), 3)
        self.assert_refused((0,) * 199 + (-1,), 199)
        self.assert_refused((0, 0, -MOST, 0), 2)

    def test_refused_above_the_place(self):
        self.assert_refused((1,), 0)
        self.assert_refused((0, 2), 1)
        self.assert_refused((0, 1, 2, 4), 3)
        self.assert_refused((0,) * 199 + (200,), 199)
        self.assert_refused((0, 0, MOST, 0), 2)

    def test_refused_at_each_place(self):
        for place in range(12):
            for count in (-2, -1, place + 1, place + 2):
                counts = list(range(12))
                counts[place] = count
                self.assert_refused(tuple(counts), place)

    def test_of_several_the_first(self):
        self.assert_refused((1, 2, 3), 0)
        self.assert_refused((0, 2, -1), 1)
        self.assert_refused((0, -1, 3), 1)
        self.assert_refused((0, 1, 3, -1, 9), 2)
        self.assert_refused((0, 1, -3, 4, 9), 2)

    def test_kinds_and_again(self):
        for counts in ((), (0,), (0, 1, 1), tuple(range(200))):
            self.assertIs(type(row_of(counts)), tuple)
            self.assertEqual({type(number) for number in row_of(counts)} - {int}, set())
            self.assertEqual(row_of(counts), row_of(counts))


class SoMany(unittest.TestCase):
    def test_written_out(self):
        told = {
            0: (1,), 1: (1,), 2: (1, 1), 3: (1, 2, 2, 1), 4: (1, 3, 5, 6, 5, 3, 1),
            5: (1, 4, 9, 15, 20, 22, 20, 15, 9, 4, 1),
        }
        for many, rows in told.items():
            self.assertEqual(rows_with(many), rows)
            self.assertEqual(rows_with(many=many), rows)

    def test_all_rows_gone_through(self):
        for many in range(8):
            self.assertEqual(rows_with(many), tuple(len(rows) for rows in rows_by_count(many)))

    def test_together_they_are_all_orders(self):
        for many in range(13):
            self.assertEqual(sum(rows_with(many)), math.factorial(many))
            self.assertEqual(len(rows_with(many)), many * (many - 1) // 2 + 1)
            self.assertEqual(rows_with(many), rows_with(many)[::-1])

    def test_one_number_more(self):
        # The last number's count is 0 to many, whatever the others have.
        for many in range(12):
            fewer = rows_with(many)
            more = [0] * (len(fewer) + many)
            for count, rows in enumerate(fewer):
                for own in range(many + 1):
                    more[count + own] += rows
            self.assertEqual(rows_with(many + 1), tuple(more))

    def test_twelve(self):
        self.assertEqual(rows_with(12)[:4], (1, 11, 65, 274))
        self.assertEqual(rows_with(12)[33], max(rows_with(12)))

    def test_kinds_and_again(self):
        for many in range(13):
            self.assertIs(type(rows_with(many)), tuple)
            self.assertEqual({type(rows) for rows in rows_with(many)}, {int})
            self.assertEqual(rows_with(many), rows_with(many))


class Numbered(unittest.TestCase):
    def assert_refused(self, many, count, place):
        for ask in (lambda: nth_row(many, count, place), lambda: nth_row(place=place, count=count, many=many)):
            with self.assertRaises(NoPlace) as held:
                ask()
            self.assertIsInstance(held.exception, BelowError)

    def test_written_out(self):
        self.assertEqual(nth_row(0, 0, 0), ())
        self.assertEqual(place_of_row(()), 0)
        self.assertEqual(nth_row(1, 0, 0), (1,))
        self.assertEqual(place_of_row((1,)), 0)
        self.assertEqual((nth_row(2, 0, 0), nth_row(2, 1, 0)), ((1, 2), (2, 1)))
        # Counts (0, 0, 1), (0, 1, 0), then (0, 0, 2), (0, 1, 1).
        self.assertEqual([nth_row(3, 1, place) for place in range(2)], [(1, 3, 2), (2, 1, 3)])
        self.assertEqual([nth_row(3, 2, place) for place in range(2)], [(2, 3, 1), (3, 1, 2)])

    def test_all_rows_gone_through(self):
        for many in range(7):
            for count, rows in enumerate(rows_by_count(many)):
                told = [nth_row(many, count, place) for place in range(len(rows))]
                self.assertEqual(told, rows)
                self.assertEqual([place_of_row(row) for row in rows], list(range(len(rows))))
                self.assert_refused(many, count, len(rows))
                self.assert_refused(many, count, -1)

    def test_by_name(self):
        self.assertEqual(nth_row(many=4, count=2, place=3), nth_row(4, 2, 3))
        self.assertEqual(nth_row(place=3, many=4, count=2), nth_row(4, 2, 3))
        self.assertEqual(place_of_row(row=nth_row(4, 2, 3)), 3)

    def test_twelve_there_and_back(self):
        for count, rows in enumerate(rows_with(12)):
            ahead = ()
            places = {0, 1, rows // 3, rows // 2, rows // 2 + 1, rows - 2, rows - 1}
            for place in sorted(place for place in places if 0 <= place < rows):
                row = nth_row(12, count, place)
                self.assertEqual(sorted(row), list(range(1, 13)))
                self.assertEqual(sum(counts_one_by_one(row)), count)
                self.assertEqual(place_of_row(row), place)
                self.assertLess(ahead, counts_one_by_one(row))
                ahead = counts_one_by_one(row)

    def test_twelve_in_order(self):
        for count in (0, 1, 2, 3, 63, 64, 65, 66):
            rows = [nth_row(12, count, place) for place in range(rows_with(12)[count])]
            counts = [counts_one_by_one(row) for row in rows]
            self.assertEqual(len(set(rows)), len(rows))
            self.assertEqual(counts, sorted(counts))
            self.assertEqual({sum(some) for some in counts}, {count})
            self.assertEqual([place_of_row(row) for row in rows], list(range(len(rows))))

    def test_the_first_and_the_last_of_twelve(self):
        self.assertEqual(nth_row(12, 1, 0), (1, 2, 3, 4, 5, 6, 7, 8, 9, 10, 12, 11))
        self.assertEqual(nth_row(12, 1, 10), (2, 1, 3, 4, 5, 6, 7, 8, 9, 10, 11, 12))
        self.assertEqual(nth_row(12, 0, 0), tuple(range(1, 13)))
        self.assertEqual(nth_row(12, 66, 0), tuple(range(12, 0, -1)))

    def test_refused_so_many(self):
        for many in range(13):
            most = many * (many - 1) // 2
            for count in (-1, -2, -most - 1, most + 1, most + 2, MOST, -MOST):
                for place in (0, 1, -1):
                    self.assert_refused(many, count, place)

    def test_refused_numbers(self):
        for many in range(13):
            for count, rows in enumerate(rows_with(many)):
                for place in (-1, -rows, rows, rows + 1, 10 ** 13, -10 ** 13):
                    self.assert_refused(many, count, place)

    def test_kinds_and_again(self):
        for many, count, place in ((0, 0, 0), (1, 0, 0), (5, 4, 7), (12, 33, 1000000)):
            row = nth_row(many, count, place)
            self.assertIs(type(row), tuple)
            self.assertEqual({type(number) for number in row} - {int}, set())
            self.assertEqual(nth_row(many, count, place), row)
            self.assertIs(type(place_of_row(row)), int)
            self.assertEqual(place_of_row(row), place_of_row(row))


if __name__ == "__main__":
    unittest.main()
