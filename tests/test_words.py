"""Names, marks' words and numbers as texts."""

import unittest

from waxcloth.words import is_name, plain_number, plain_shades, shades_shown

SIGNS = [chr(code) for code in range(32, 127)] + ["\n"]
SMALL = "abcdefghijklmnopqrstuvwxyz"
FIGURES = "0123456789"


class Names(unittest.TestCase):
    def test_good_ones(self):
        for text in ["a", "z", "ab", "wax", "hangfold", "zzzzzzzz", SMALL[:8], SMALL[-8:]]:
            with self.subTest(text):
                self.assertIs(is_name(text), True)

    def test_too_short_and_too_long(self):
        for text in ["", "abcdefghi", "a" * 9, "a" * 5000]:
            with self.subTest(text[:12]):
                self.assertIs(is_name(text), False)

    def test_each_sign_by_itself(self):
        for sign in SIGNS:
            with self.subTest(sign):
                self.assertIs(is_name(sign), sign in SMALL)

    def test_one_wrong_sign_anywhere(self):
        for sign in SIGNS:
            for text in [sign + "ab", "a" + sign + "b", "ab" + sign]:
                with self.subTest(text):
                    self.assertIs(is_name(text), sign in SMALL)


class Numbers(unittest.TestCase):
    def test_good_ones(self):
        for number in [0, 1, 9, 10, 12, 40, 99, 100, 999, 1000, 99999, 100000, 999999]:
            with self.subTest(number):
                told = plain_number(str(number))
                self.assertEqual(told, number)
                self.assertIs(type(told), int)

    def test_what_is_written_is_read(self):
        for number in range(0, 12000):
            self.assertEqual(plain_number(str(number)), number)

    def test_noughts_ahead(self):
        for text in ["00", "01", "007", "000000", "012345", "0000000"]:
            with self.subTest(text):
                self.assertIsNone(plain_number(text))

    def test_too_great(self):
        for text in ["1000000", "9999999", "1" * 20, "9" * 5000]:
            with self.subTest(text[:12]):
                self.assertIsNone(plain_number(text))

    def test_not_plain(self):
        for text in ["", "-", "-1", "-0", "+1", " 1", "1 ", "1\n", "\n", "1 2", "1_0", "1.0", "1e3", "0x1", "a", "1a"]:
            with self.subTest(text):
                self.assertIsNone(plain_number(text))

    def test_each_sign_by_itself(self):
        for sign in SIGNS:
            with self.subTest(sign):
                self.assertEqual(plain_number(sign), int(sign) if sign in FIGURES else None)

    def test_one_wrong_sign_anywhere(self):
        for sign in SIGNS:
            if sign not in FIGURES:
                for text in [sign + "12", "1" + sign + "2", "12" + sign]:
                    with self.subTest(text):
                        self.assertIsNone(plain_number(text))


class Shades(unittest.TestCase):
    def test_none(self):
        self.assertEqual(shades_shown(()), "-")
        self.assertEqual(plain_shades("-"), ())

    def test_one_to_twelve(self):
        for many in range(1, 13):
            shades = tuple([(7 * at + many) % 10 for at in range(many)])
            text = "".join([FIGURES[shade] for shade in shades])
            self.assertEqual(shades_shown(shades), text)
            told = plain_shades(text)
            self.assertEqual(told, shades)
            self.assertIs(type(told), tuple)
            self.assertEqual([type(shade) for shade in told], [int] * many)

    def test_not_so(self):
        for text in [
            "", "0" * 13, "9" * 5000, "--", "-1", "1-", "+1", " 1", "1 ", "1 2", "1\n", "1_2", "1a", "*", "\u0661",
        ]:
            with self.subTest(text[:14]):
                self.assertIsNone(plain_shades(text))

    def test_each_sign_by_itself(self):
        for sign in SIGNS:
            with self.subTest(sign):
                self.assertEqual(plain_shades(sign), (int(sign),) if sign in FIGURES else () if sign == "-" else None)


if __name__ == "__main__":
    unittest.main()
