"""The refusals: how they stand under one another, and what they keep."""

import copy
import unittest

from belowpoints.errors import BelowError, NoAsk, NoCounts, NoName, NoPlace, NoPoints

REFUSALS = (NoPlace, NoAsk, NoPoints, NoCounts, NoName)


class Standing(unittest.TestCase):
    def test_each_stands_under_below_error_and_value_error(self):
        for refusal in REFUSALS:
            with self.subTest(refusal=refusal.__name__):
                self.assertTrue(issubclass(refusal, BelowError))
                self.assertTrue(issubclass(refusal, ValueError))

    def test_below_error_stands_under_value_error_alone(self):
        self.assertTrue(issubclass(BelowError, ValueError))
        for refusal in REFUSALS:
            self.assertFalse(issubclass(BelowError, refusal))

    def test_none_stands_under_another(self):
        for one in REFUSALS:
            for other in REFUSALS:
                if one is not other:
                    with self.subTest(one=one.__name__, other=other.__name__):
                        self.assertFalse(issubclass(one, other))

    def test_each_is_taken_as_below_error(self):
        for refusal, made_of in ((NoPlace, "a"), (NoAsk, "b"), (NoPoints, 0), (NoCounts, 1), (NoName, "c")):
            with self.assertRaises(BelowError):
                raise refusal(made_of)


class Keeping(unittest.TestCase):
    def test_text_is_told_by_str(self):
        for refusal in (NoPlace, NoAsk):
            for text in ("there is no place 7", "", "two\nlines", "100% {so}"):
                with self.subTest(refusal=refusal.__name__, text=text):
                    self.assertEqual(str(refusal(text)), text)
                    self.assertEqual(str(refusal(text=text)), text)

    def test_row_is_kept(self):
        for refusal in (NoPoints, NoCounts):
            for row in (0, 1, 59, 10 ** 12):
                with self.subTest(refusal=refusal.__name__, row=row):
                    self.assertEqual(refusal(row).row, row)
                    self.assertEqual(refusal(row=row).row, row)

    def test_word_is_kept(self):
        for word in ("a", "abcdefgh", ""):
            with self.subTest(word=word):
                self.assertEqual(NoName(word).word, word)
                self.assertEqual(NoName(word=word).word, word)

    def test_one_does_not_change_another(self):
        first = NoPoints(1)
        second = NoPoints(2)
        self.assertEqual((first.row, second.row), (1, 2))

    def test_copies_keep_what_they_are_made_of(self):
        self.assertEqual(copy.copy(NoPoints(row=4)).row, 4)
        self.assertEqual(copy.copy(NoCounts(row=5)).row, 5)
        self.assertEqual(copy.copy(NoName(word="who")).word, "who")
        self.assertEqual(str(copy.copy(NoPlace(text="nowhere"))), "nowhere")


if __name__ == "__main__":
    unittest.main()
