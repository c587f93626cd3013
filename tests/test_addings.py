import copy
import itertools
import unittest

from askpaper.addings import read_sum, shown_sum, worth
from askpaper.errors import NoSum
from things import NO_NAMES, NO_TEXTS

NINES = 10 ** 60 - 1
TWELVE = [(1, "a"), (-1, "b"), (0, None), (1, None), (-1, None), (2, "c"), (-2, "d"), (10, None), (-10, None),
          (12, "abcdefghijkl"), (-12, "yes"), (0, None)]
TWELVE_TEXT = "a - b + 0 + 1 - 1 + 2 c - 2 d + 10 - 10 + 12 abcdefghijkl - 12 yes + 0"

WRITTEN = (
    ([(-2, "kids"), (1, "age"), (10, None), (-3, None)], "- 2 kids + age + 10 - 3"),
    ([(1, "age")], "age"),
    ([(-1, "age")], "- age"),
    ([(2, "age")], "2 age"),
    ([(-2, "age")], "- 2 age"),
    ([(0, None)], "0"),
    ([(1, None)], "1"),
    ([(-1, None)], "- 1"),
    ([(120, None)], "120"),
    ([(-120, None)], "- 120"),
    ([(0, None), (0, None)], "0 + 0"),
    ([(-1, None), (0, None)], "- 1 + 0"),
    ([(5, None), (5, None), (-5, None)], "5 + 5 - 5"),
    ([(1, "a"), (1, "b")], "a + b"),
    ([(-1, "a"), (-1, "b")], "- a - b"),
    ([(3, None), (1, "a")], "3 + a"),
    ([(NINES, "a"), (-NINES, None)], "9" * 60 + " a - " + "9" * 60),
    (TWELVE, TWELVE_TEXT),
)


def all_texts_of(parts_of_one, most):
    """Every text of up to so many of these parts, by what the document says of writing, and its parts."""
    texts = {}
    for count in range(1, most + 1):
        for parts in itertools.product(parts_of_one, repeat=count):
            named = [name for times, name in parts if name is not None]
            if len(set(named)) == len(named):
                text = ""
                for place, (times, name) in enumerate(parts):
                    text += (" - " if times < 0 else " + ") if place else ("- " if times < 0 else "")
                    words = [] if name is not None and times in (1, -1) else [str(abs(times))]
                    text += " ".join(words + ([] if name is None else [name]))
                texts[text] = list(parts)
    return texts


class ShownAndReadTest(unittest.TestCase):
    def test_written_and_read(self):
        for parts, text in WRITTEN:
            with self.subTest(text=text):
                self.assertEqual(shown_sum(parts), text)
                got = read_sum(text)
                self.assertEqual(got, parts)
                self.assertIs(type(got), list)
                self.assertEqual(shown_sum(got), text)
                for part in got:
                    self.assertIs(type(part), tuple)
                    self.assertIs(type(part[0]), int)

    def test_arguments_bear_their_names(self):
        self.assertEqual(read_sum(text="a"), [(1, "a")])
        self.assertEqual(shown_sum(parts=[(1, "a")]), "a")
        self.assertEqual(worth(parts=[(1, "a")], look=lambda name: 3), 3)

    def test_every_short_text(self):
        likely = [(times, name) for times in (-2, -1, 1, 2) for name in ("a", "b", None)] + [(0, None)]
        texts = all_texts_of(likely, 3)
        words = ("+", "-", "0", "1", "2", "a", "b", "-1", "")
        for length in range(1, 7):
            for chosen in itertools.product(words, repeat=length):
                text = " ".join(chosen)
                if text in texts:
                    self.assertEqual(read_sum(text), texts[text])
                else:
                    with self.assertRaises(NoSum, msg=text):
                        read_sum(text)

    def test_all_sums_of_three_parts(self):
        likely = [(times, name) for times in (-12, -1, 1, 2) for name in ("a", "b", "c", None)] + [(0, None)]
        for text, parts in all_texts_of(likely, 3).items():
            self.assertEqual(shown_sum(parts), text)
            self.assertEqual(read_sum(text), parts)


class RefusedTest(unittest.TestCase):
    def check_refused(self, thing):
        with self.subTest(thing=thing):
            with self.assertRaises(NoSum):
                read_sum(thing)

    def test_twelve_parts_and_thirteen(self):
        self.assertEqual(len(read_sum(TWELVE_TEXT)), 12)
        for more in (" + 1", " - 1", " + e", " - 2 e"):
            self.check_refused(TWELVE_TEXT + more)
        self.assertEqual(read_sum(" + ".join(["0"] * 12)), [(0, None)] * 12)
        self.check_refused(" + ".join(["0"] * 13))
        self.check_refused(" + ".join(["0"] * 2500))
        self.check_refused(" + ".join("abcdefghijklm"))

    def test_a_nought_or_one_ahead_of_a_name(self):
        for text in ("0 a", "1 a", "- 0 a", "- 1 a", "b + 0 a", "b + 1 a", "b - 0 a", "b - 1 a"):
            self.check_refused(text)

    def test_a_nought_below_nought(self):
        for text in ("- 0", "-0", "a - 0", "1 - 0 + 2", "a + -0"):
            self.check_refused(text)

    def test_a_name_twice(self):
        for text in ("a + a", "a - a", "2 a + 3 a", "a + b - a", "- a + 7 - 2 a"):
            self.check_refused(text)

    def test_signs_where_there_can_be_none(self):
        for text in ("+", "-", "+ a", "+ 2", "- - a", "+ - a", "a +", "a -", "a + + b", "a - - b", "a + - b", "- a +",
                     "-a", "-2", "- -2", "a + -2", "-2 a", "+2", "a + +2", "a+b", "a +b", "a+ b", "2a", "a2", "a 2",
                     "a b", "2 3", "2 a b", "2 3 a", "2 a 3", "a * 2", "2 * a", "a - 2 3"):
            self.check_refused(text)

    def test_numbers_and_names_that_are_none(self):
        for text in ("00", "02", "02 a", "- 02", "1.5", "1.50 a", "1" + "0" * 60, "1" + "0" * 60 + " a",
                     "- 1" + "0" * 60, "A", "a1", "a_b", "abcdefghijklm", "2 abcdefghijklm", "a" * 9000, "9" * 9000):
            self.check_refused(text)
        for word in NO_NAMES:
            for text in (word, "2 " + word, "- " + word, "a + " + word):
                self.check_refused(text)

    def test_blanks_and_other_signs(self):
        for text in ("", " ", "  ", " a", "a ", "a  + b", "a +  b", "2  a", "-  a", " - a", "- a ", "a\t+ b", "a +\tb",
                     "a\n", "\na", "a\n+ b", "\t", "\n", "2\ta"):
            self.check_refused(text)

    def test_what_is_no_text(self):
        for thing in NO_TEXTS + ([(1, "a")], (1, "a"), [(0, None)], b"a + b"):
            self.check_refused(thing)


class WorthTest(unittest.TestCase):
    def test_worth(self):
        worths = {"kids": 3, "age": -41, "nought": 0}
        for parts, told in (
            ([(-2, "kids"), (1, "age"), (10, None), (-3, None)], -2 * 3 - 41 + 10 - 3),
            ([(0, None)], 0),
            ([(7, None)], 7),
            ([(-7, None), (-7, None)], -14),
            ([(1, "kids")], 3),
            ([(-1, "age")], 41),
            ([(5, "nought"), (1, None)], 1),
            ([(10 ** 59, "kids"), (-1, "kids")], 3 * 10 ** 59 - 3),
        ):
            with self.subTest(parts=parts):
                got = worth(parts, worths.__getitem__)
                self.assertEqual(got, told)
                self.assertIs(type(got), int)

    def test_twelve_parts_each_count(self):
        names = "abcdefghijkl"
        parts = [(10 ** place, name) for place, name in enumerate(names)]
        self.assertEqual(worth(parts, lambda name: names.index(name) % 10), 109876543210)

    def test_look_is_asked_for_names_alone(self):
        asked = []

        def look(name):
            asked.append(name)
            return 1

        worth([(4, None), (2, "b"), (-1, "a"), (0, None)], look)
        self.assertEqual(sorted(set(asked)), ["a", "b"])


class NothingIsChangedTest(unittest.TestCase):
    def test_parts_that_are_handed_in_stay(self):
        for parts, text in WRITTEN:
            before = copy.deepcopy(parts)
            shown_sum(parts)
            worth(parts, len)
            self.assertEqual(parts, before)

    def test_parts_that_are_told_are_the_askers_own(self):
        first = read_sum("2 a - 3")
        second = read_sum("2 a - 3")
        first.append((1, "b"))
        first[0] = (9, None)
        self.assertEqual(second, [(2, "a"), (-3, None)])
        self.assertEqual(read_sum("2 a - 3"), [(2, "a"), (-3, None)])
        second.clear()
        self.assertEqual(first, [(9, None), (-3, None), (1, "b")])


if __name__ == "__main__":
    unittest.main()
