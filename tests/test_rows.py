"""Rows and numbers, as points 8 and 11 write them."""

import unittest

from onefacers.errors import NoText
from onefacers.rows import number_of, rows_of, rows_text
from tests.things import odd_things


class Numbers(unittest.TestCase):
    def test_numbers(self):
        for number in (0, 1, 9, 10, 11, 100, 10 ** 29):
            self.assertEqual(number_of(str(number)), number)

    def test_no_numbers(self):
        for text in ("", "00", "01", "-1", "+1", " 1", "1 ", "1\n", "1_0", "x", "1.", "\u0661", "\u00b2", "9" * 5000):
            self.assertIsNone(number_of(text), repr(text))


class Rows(unittest.TestCase):
    def test_rows(self):
        self.assertEqual(rows_of("a b\n c\n"), [["a", "b"], ["", "c"]])
        self.assertEqual(rows_of(""), [])
        self.assertEqual(rows_text([["a", "b"], ["", "c"]]), "a b\n c\n")
        self.assertEqual(rows_text([]), "")

    def test_no_text(self):
        for thing in odd_things():
            if not isinstance(thing, str):
                self.assertRaises(NoText, rows_of, thing)


if __name__ == "__main__":
    unittest.main()
