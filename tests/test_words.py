import itertools
import re
import unittest

from askpaper.errors import NoNumber
from askpaper.words import is_name, is_whole, number_of
from things import NO_NAMES, NO_TEXTS


class IsWholeTest(unittest.TestCase):
    def test_ints_are_whole(self):
        for thing in (0, 1, -1, 7, 10 ** 59, -(10 ** 59)):
            self.assertIs(is_whole(thing), True, thing)

    def test_truths_and_other_things_are_not(self):
        for thing in (True, False, None, "1", "", 1.0, b"1", [1], (1,), {}, {1}, int):
            self.assertIs(is_whole(thing), False, thing)


class IsNameTest(unittest.TestCase):
    def test_names_of_one_to_twelve_letters(self):
        for length in range(1, 13):
            self.assertIs(is_name("q" * length), True, length)
        for letter in "abcdefghijklmnopqrstuvwxyz":
            self.assertIs(is_name(letter), True, letter)
        self.assertIs(is_name("abcdefghijkl"), True)

    def test_too_short_and_too_long(self):
        self.assertIs(is_name(""), False)
        self.assertIs(is_name("abcdefghijklm"), False)
        self.assertIs(is_name("a" * 10000), False)

    def test_the_eight_words_are_none(self):
        for word in NO_NAMES:
            self.assertIs(is_name(word), False, word)

    def test_words_that_are_like_them_are_names(self):
        for word in ("an", "ands", "ends", "iss", "nor", "for", "yes", "no", "ask", "paper", "sheet", "way",
                     "sum", "refuse", "warn", "yesno", "whole", "money", "pick", "names", "at", "on"):
            self.assertIs(is_name(word), True, word)

    def test_other_signs(self):
        for sign in " \t\n-_.'09AZ`{~@[":
            for text in (sign, "a" + sign, sign + "a", "a" + sign + "b"):
                self.assertIs(is_name(text), False, text)
        for text in ("And", "Abc", "aB", "\u00e9", "\u0430"):
            self.assertIs(is_name(text), False, text)

    def test_what_is_no_text(self):
        for thing in NO_TEXTS:
            self.assertIs(is_name(thing), False, thing)


class NumberOfTest(unittest.TestCase):
    def check_refused(self, thing, most=60):
        with self.subTest(thing=thing, most=most):
            with self.assertRaises(NoNumber):
                number_of(thing, most)

    def test_ordinary_numbers(self):
        for number in list(range(-1100, 1101)) + [1234567890, -9876543210]:
            got = number_of(str(number))
            self.assertEqual(got, number)
            self.assertTrue(is_whole(got))

    def test_every_short_text(self):
        for length in range(6):
            for signs in itertools.product("-0195 +", repeat=length):
                text = "".join(signs)
                if re.fullmatch("0|-?[1-9][0-9]*", text):
                    self.assertEqual(number_of(text), int(text))
                else:
                    with self.assertRaises(NoNumber, msg=text):
                        number_of(text)

    def test_sixty_figures_and_one_more(self):
        self.assertEqual(number_of("9" * 60), 10 ** 60 - 1)
        self.assertEqual(number_of("-" + "9" * 60), 1 - 10 ** 60)
        self.assertEqual(number_of("1" + "0" * 59), 10 ** 59)
        self.check_refused("1" + "0" * 60)
        self.check_refused("-1" + "0" * 60)

    def test_most_tells_how_many_figures(self):
        self.assertEqual(number_of("999", most=3), 999)
        self.assertEqual(number_of("-999", 3), -999)
        self.check_refused("1000", 3)
        self.check_refused("-1000", 3)
        self.assertEqual(number_of(text="9" * 1000, most=1000), 10 ** 1000 - 1)
        self.check_refused("9" * 1001, 1000)
        self.assertEqual(number_of("1" + "0" * 8999, 9000), 10 ** 8999)

    def test_noughts(self):
        self.assertEqual(number_of("0"), 0)
        for text in ("-0", "00", "01", "-01", "-00", "007", "0" * 60):
            self.check_refused(text)

    def test_wrong_texts(self):
        for text in ("", "-", "--1", "1-", "+1", " 1", "1 ", "1 2", "\t1", "1\n", "1.0", "1e3", "1_000", "0x1", "a",
                     "one", "1a", "\u0661", "\u00b2", "1\u0661"):
            self.check_refused(text)

    def test_what_is_no_text(self):
        for thing in NO_TEXTS:
            self.check_refused(thing)


if __name__ == "__main__":
    unittest.main()
