"""[4] points written and read, [5] which place lies below which."""

import unittest

from belowpoints.errors import BelowError, NoPoints
from belowpoints.heaps.texts import lies_below, points_shown, read_points
from examples import GREAT, HEAPS, NONE, SAME_PLACE, SIXTY_WIDE


class Reading(unittest.TestCase):
    def assert_read(self, text, points):
        told = read_points(text)
        self.assertEqual(told, points)
        self.assertIs(type(told), tuple)
        for point in told:
            self.assertEqual([type(part) for part in point], [str, int, int])
            self.assertIs(type(point), tuple)

    def test_none(self):
        self.assert_read("", ())

    def test_one(self):
        self.assert_read("a 1 2", (("a", 1, 2),))

    def test_several_in_the_order_of_the_lines(self):
        self.assert_read("b 1 2\na 3 4\nc 0 0", (("b", 1, 2), ("a", 3, 4), ("c", 0, 0)))

    def test_several_at_one_place(self):
        self.assert_read("a 1 2\nb 1 2\nab 1 2", (("a", 1, 2), ("b", 1, 2), ("ab", 1, 2)))

    def test_names_of_one_to_eight_letters(self):
        for name in ("a", "z", "az", "abcdefgh", "stuvwxyz", "zzzzzzzz", "ijklmnop", "qr"):
            self.assert_read(name + " 0 0", ((name, 0, 0),))

    def test_numbers(self):
        for number in (0, 1, -1, 9, 10, -10, 100, 1234567890, -1234567890, 9999999999, -9999999999):
            self.assert_read(f"a {number} 5", (("a", number, 5),))
            self.assert_read(f"a 5 {number}", (("a", 5, number),))

    def test_more_than_is_bounded_is_not_refused(self):
        self.assert_read("a 12345678901 -9999999999999", (("a", 12345678901, -9999999999999),))
        points = SIXTY_WIDE + tuple((name + "more", x, y) for name, x, y in SIXTY_WIDE[:9])
        self.assert_read(points_shown(points), points)

    def test_sixty(self):
        lines = [f"{name} {x} {y}" for name, x, y in SIXTY_WIDE]
        self.assert_read("\n".join(lines), SIXTY_WIDE)

    def test_by_name(self):
        self.assertEqual(read_points(text="a 1 2"), (("a", 1, 2),))

    def test_the_same_again(self):
        text = "a 1 2\nb 3 4"
        self.assertEqual(read_points(text), read_points(text))


class Refusing(unittest.TestCase):
    def assert_refused(self, text, row):
        with self.subTest(text=text):
            with self.assertRaises(NoPoints) as held:
                read_points(text)
            self.assertEqual(held.exception.row, row)
            self.assertIs(type(held.exception.row), int)
            self.assertIsInstance(held.exception, BelowError)

    def assert_no_line(self, line):
        self.assert_refused(line, 0)
        self.assert_refused("x 1 2\n" + line, 1)
        self.assert_refused("x 1 2\n" + line + "\ny 3 4", 1)
        self.assert_refused("x 1 2\ny 3 4\n" + line + "\nz 3 4", 2)

    def test_empty_lines(self):
        self.assert_refused("\n", 0)
        self.assert_refused("\n\n\n", 0)
        self.assert_refused("\na 1 2", 0)
        self.assert_refused("a 1 2\n", 1)
        self.assert_refused("a 1 2\n\n", 1)
        self.assert_refused("a 1 2\nb 1 2\n", 2)
        self.assert_refused("a 1 2\n\nb 1 2", 1)

    def test_blanks_alone(self):
        for line in (" ", "  ", "   "):
            self.assert_no_line(line)

    def test_words_too_many_or_too_few(self):
        for line in ("a", "a 1", "1 2", "a 1 2 3", "a b 1 2", "a 1 2 b", "a12"):
            self.assert_no_line(line)

    def test_blanks_too_many(self):
        for line in ("a  1 2", "a 1  2", " a 1 2", "a 1 2 ", "a 1 ", " 1 2", "a  2", "  a 1 2", "a 1 2  "):
            self.assert_no_line(line)

    def test_names_that_are_none(self):
        for name in ("", "abcdefghi", "A", "Abc", "abC", "a1", "1", "a_b", "a-b", "-", "a.", "`", "{", "~", "@", "["):
            self.assert_no_line(name + " 1 2")

    def test_numbers_that_are_none(self):
        numbers = (
            "", "-", "--1", "+1", "+", "-0", "+0", "00", "01", "-01", "-00", "007", "1-", "1-2", "1.0", "1e3",
            "a", "1a", "a1", "1_0", "0x1", "1,0", "/", ":", "1/", "1:", "- 1", "-a", "None", "True",
        )
        for number in numbers:
            self.assert_no_line(f"a {number} 2")
            self.assert_no_line(f"a 2 {number}")

    def test_other_white_space(self):
        for line in ("a\t1 2", "a 1\t2", "a 1 2\t", "a 1 2\r", "\ta 1 2", "a 1 \t2"):
            self.assert_no_line(line)

    def test_signs_of_other_alphabets(self):
        for line in ("\u00e4 1 2", "a \u0661 2", "a 1 \u00b2", "a 1 \uff12"):
            self.assert_no_line(line)

    def test_other_line_ends(self):
        self.assert_refused("a 1 2\rb 3 4", 0)
        self.assert_refused("a 1 2\r\nb 3 4", 0)

    def test_names_that_are_there(self):
        self.assert_refused("a 1 2\na 1 2", 1)
        self.assert_refused("a 1 2\nb 1 2\na 3 4", 2)
        self.assert_refused("a 1 2\nb 1 2\nb 3 4\na 1 2", 2)

    def test_the_first_of_several(self):
        self.assert_refused("a 1 2\na 3 4\n\nb 01 2", 1)
        self.assert_refused("a 1 2\nb 01 2\na 3 4", 1)
        self.assert_refused("a 1 2\nb 3 4\n\na 3 4\n", 2)
        self.assert_refused("A 1 2\na 1 2\na 1 2", 0)

    def test_the_last_of_sixty(self):
        self.assert_refused(points_shown(SIXTY_WIDE[:59]) + "\naa 1 2", 59)

    def test_by_name(self):
        with self.assertRaises(NoPoints) as held:
            read_points(text="a 1 2\nb")
        self.assertEqual(held.exception.row, 1)


class Showing(unittest.TestCase):
    def test_lines(self):
        self.assertEqual(points_shown(()), "")
        self.assertEqual(points_shown((("a", 1, 2),)), "a 1 2")
        self.assertEqual(points_shown((("b", 0, -1), ("a", -10, 0))), "b 0 -1\na -10 0")
        self.assertEqual(points_shown(SAME_PLACE[:3]), "aa 2 5\nab 2 5\nac 2 5")

    def test_great_numbers(self):
        self.assertEqual(points_shown(GREAT[:1]), "aa 9999999999 -9999999999")

    def test_what_is_shown_is_read_as_these_points(self):
        for points in HEAPS:
            text = points_shown(points)
            self.assertIs(type(text), str)
            self.assertEqual(read_points(text), points)
            self.assertEqual(points_shown(read_points(text)), text)

    def test_by_name(self):
        self.assertEqual(points_shown(points=(("a", 1, 2), ("b", 1, 2))), "a 1 2\nb 1 2")
        self.assertEqual(points_shown(points=NONE), "")

    def test_the_same_again(self):
        self.assertEqual(points_shown(GREAT), points_shown(GREAT))


class Lying(unittest.TestCase):
    def test_each_number_less_the_same_greater(self):
        told = {
            (-1, -1): True, (-1, 0): True, (-1, 1): False,
            (0, -1): True, (0, 0): False, (0, 1): False,
            (1, -1): False, (1, 0): False, (1, 1): False,
        }
        for x, y in ((0, 0), (5, -3), (-9999999999, 9999999999)):
            for (more_x, more_y), truth in told.items():
                with self.subTest(x=x, y=y, more_x=more_x, more_y=more_y):
                    self.assertIs(lies_below((x + more_x, y + more_y), (x, y)), truth)
                    self.assertIs(lies_below(one=(x + more_x, y + more_y), other=(x, y)), truth)

    def test_far_apart(self):
        self.assertIs(lies_below((-9999999999, -9999999999), (9999999999, 9999999999)), True)
        self.assertIs(lies_below((9999999999, 9999999999), (-9999999999, -9999999999)), False)
        self.assertIs(lies_below((-9999999999, 1), (9999999999, 0)), False)

    def test_never_both_ways(self):
        places = [(x, y) for x in range(-2, 3) for y in range(-2, 3)]
        for one in places:
            for other in places:
                self.assertFalse(lies_below(one, other) and lies_below(other, one))

    def test_names_by_place(self):
        self.assertIs(lies_below(other=(1, 1), one=(0, 0)), True)
        self.assertIs(lies_below(other=(0, 0), one=(1, 1)), False)


if __name__ == "__main__":
    unittest.main()
