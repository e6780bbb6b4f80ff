"""Point 5, names and numbers: stretchbook.words."""

import string
import unittest

from stretchbook.words import is_name, number_of

PRINTED = [chr(code) for code in range(ord(" "), ord("~") + 1)]


class TestNames(unittest.TestCase):
    def test_names(self):
        for text in ("a", "z", "ab", "mine", "zzzzzzzz", "abcdefgh", "none", "part"):
            self.assertIs(is_name(text), True, text)

    def test_every_length(self):
        for length in range(20):
            self.assertIs(is_name("q" * length), 1 <= length <= 8, length)
        self.assertIs(is_name("q" * 10000), False)

    def test_every_sign_alone_ahead_within_and_behind(self):
        for sign in PRINTED + ["\n"]:
            letter = sign in string.ascii_lowercase
            for text in (sign, sign + "ab", "a" + sign + "b", "ab" + sign):
                self.assertIs(is_name(text), letter, repr(text))

    def test_no_names(self):
        for text in ("", "abcdefghi", "A", "aB", "a1", "1", "0", " a", "a ", "a b",
                     "\n", "a\n", "\na", "a\nb", "a.b", "a-b", "a_b", "~"):
            self.assertIs(is_name(text), False, repr(text))


class TestNumbers(unittest.TestCase):
    def told(self, text, number):
        self.assertEqual(number_of(text), number, repr(text))
        self.assertIs(type(number_of(text)), type(number), repr(text))

    def test_nought(self):
        self.told("0", 0)

    def test_every_length(self):
        for length in range(1, 16):
            for first in "123456789":
                self.told(first * length, int(first * length))
            self.told("1" + "0" * (length - 1), 10 ** (length - 1))
            self.told("9" * length, 10 ** length - 1)

    def test_the_greatest(self):
        self.told("999999999999999", 10 ** 15 - 1)
        self.told("123456789012345", 123456789012345)

    def test_too_many_figures(self):
        for text in ("1000000000000000", "9" * 16, "1" * 17, "1" * 5000, "9" * 10000):
            self.told(text, None)

    def test_noughts_ahead(self):
        for text in ("00", "01", "007", "000000000000000", "0" * 16, "0" * 10000,
                     "000000000000001", "0000000000000001"):
            self.told(text, None)

    def test_other_texts(self):
        for text in ("", "-", "+", "-1", "+1", "-0", "+0", " 1", "1 ", " ", "1 2", "\n",
                     "1\n", "\n1", "0\n", "\n0", "1_000", "1.0", "1.", ".1", "1e3", "0x1",
                     "a", "1a", "a1", "~"):
            self.told(text, None)

    def test_every_sign_alone_ahead_within_and_behind(self):
        for sign in PRINTED + ["\n"]:
            if sign not in string.digits:
                for text in (sign, sign + "12", "1" + sign + "2", "12" + sign):
                    self.told(text, None)


if __name__ == "__main__":
    unittest.main()
