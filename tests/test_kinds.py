import itertools
import re
import unittest

from askpaper.errors import NoAnswer, NoKind
from askpaper.kinds import Kind, Money, Names, Pick, Whole, YesNo, kind_of
from things import NO_NAMES, NO_TEXTS

NINES = 10 ** 60 - 1
SIX = ["red", "green", "blue", "yes", "no", "abcdefghijkl"]


def some_kinds():
    return [
        YesNo(), Whole(-3, 12), Whole(5, 5), Whole(-NINES, NINES), Money(-120, 1205), Money(-NINES, NINES),
        Pick(["red", "blue"]), Pick(SIX), Names(1), Names(), Names(6),
    ]


class KindsTest(unittest.TestCase):
    def check_no_answer(self, kind, thing):
        with self.subTest(kind=kind.told(), thing=thing):
            with self.assertRaises(NoAnswer):
                kind.read(thing)

    def check_written(self, kind, answer, text, rank):
        """All that is promised of one answer and the text that writes it."""
        with self.subTest(kind=kind.told(), text=text):
            self.assertIs(kind.fits(answer), True)
            self.assertEqual(kind.shown(answer), text)
            self.assertIs(type(kind.rank(answer)), int)
            self.assertEqual(kind.rank(answer), rank)
            for blanks in ("", " ", "   "):
                for behind in ("", " ", "    "):
                    got = kind.read(blanks + text + behind)
                    self.assertEqual(got, answer)
                    self.assertIs(type(got), type(answer))
            for sign in "\t\n":
                self.check_no_answer(kind, sign + text)
                self.check_no_answer(kind, " " + sign + " " + text)
                self.check_no_answer(kind, text + sign)
                self.check_no_answer(kind, text + " " + sign + " ")

    def check_misfits(self, kind, things):
        for thing in things:
            with self.subTest(kind=kind.told(), thing=thing):
                self.assertIs(kind.fits(thing), False)


class AllKindsTest(KindsTest):
    def test_classes(self):
        five = (YesNo, Whole, Money, Pick, Names)
        for one in five:
            self.assertTrue(issubclass(one, Kind))
            self.assertIsNot(one, Kind)
            for other in five:
                if one is not other and (one, other) != (Money, Whole):
                    self.assertFalse(issubclass(one, other), (one, other))

    def test_a_base_has_low_and_high(self):
        kind = Kind(low=2, high=9)
        self.assertEqual((kind.low, kind.high), (2, 9))

    def test_arguments_bear_their_names(self):
        kind = Whole(low=2, high=9)
        self.assertTrue(kind.fits(thing=2))
        self.assertEqual(kind.read(text="3"), 3)
        self.assertEqual(kind.shown(answer=4), "4")
        self.assertEqual(kind.rank(answer=5), 5)
        self.assertEqual(kind.sample(rank=6), 6)
        self.assertEqual(Money(low=2, high=9).told(), "money 0.02 0.09")
        self.assertEqual(Pick(words=["a", "b"]).told(), "pick a b")
        self.assertEqual(Names(most=2).told(), "names 2")
        self.assertEqual(kind_of(text="yesno").told(), "yesno")

    def test_samples_of_all_ranks(self):
        for kind in some_kinds():
            for rank in range(max(kind.low, -200), min(kind.high, 1300) + 1):
                sample = kind.sample(rank)
                self.assertIs(kind.fits(sample), True)
                self.assertIs(type(kind.rank(sample)), int)
                self.assertEqual(kind.rank(sample), rank)
                self.assertEqual(kind.read(kind.shown(sample)), sample)

    def test_samples_at_the_ends(self):
        for kind in some_kinds():
            for rank in (kind.low, kind.high):
                self.assertEqual(kind.rank(kind.sample(rank)), rank)
                self.assertIs(kind.fits(kind.sample(rank)), True)

    def test_what_is_no_text_is_no_written_answer(self):
        for kind in some_kinds():
            for thing in NO_TEXTS:
                self.check_no_answer(kind, thing)

    def test_texts_that_write_no_answer_of_any_kind(self):
        for kind in some_kinds():
            for text in ("", " ", "   ", "\t", "\n", ".", "--", "?", "Yes", "1.5", "1,50", "a, b", "and", "+1"):
                self.check_no_answer(kind, text)

    def test_what_fits_no_kind(self):
        for kind in some_kinds():
            self.check_misfits(kind, (None, 1.0, 5.0, b"red", [], ["a"], ["red"], {}, {"a"}, object(), int, "", "-", "1"))

    def test_reading_and_asking_changes_nothing(self):
        for kind in some_kinds():
            before = (kind.low, kind.high, kind.told())
            sample = kind.sample(kind.high)
            kind.fits(sample)
            kind.read(kind.shown(sample))
            self.assertEqual((kind.low, kind.high, kind.told()), before)


class YesNoTest(KindsTest):
    def test_the_two_answers(self):
        kind = YesNo()
        self.assertEqual((kind.low, kind.high), (0, 1))
        self.check_written(kind, True, "yes", 1)
        self.check_written(kind, False, "no", 0)
        self.assertIs(kind.sample(1), True)
        self.assertIs(kind.sample(0), False)

    def test_a_number_is_no_truth(self):
        self.check_misfits(YesNo(), (0, 1, 2, -1, "yes", "no", (), (True,), [True]))

    def test_wrong_texts(self):
        for text in ("y", "n", "true", "True", "1", "0", "YES", "No", "yes no", "y es", "-"):
            self.check_no_answer(YesNo(), text)


class WholeTest(KindsTest):
    def test_answers_are_written_as_numbers(self):
        kind = Whole(-12, 120)
        self.assertEqual((kind.low, kind.high), (-12, 120))
        for number in range(-12, 121):
            self.check_written(kind, number, str(number), number)

    def test_one_number_alone(self):
        kind = Whole(5, 5)
        self.check_written(kind, 5, "5", 5)
        self.check_misfits(kind, (4, 6))
        self.check_no_answer(kind, "4")
        self.check_no_answer(kind, "6")

    def test_sixty_figures(self):
        kind = Whole(-NINES, NINES)
        self.check_written(kind, NINES, "9" * 60, NINES)
        self.check_written(kind, -NINES, "-" + "9" * 60, -NINES)
        self.check_no_answer(kind, "1" + "0" * 60)
        self.check_no_answer(kind, "-1" + "0" * 60)

    def test_out_of_bounds(self):
        kind = Whole(-3, 12)
        self.check_misfits(kind, (-4, 13, -(10 ** 59), 10 ** 59))
        for text in ("-4", "13", "1" + "0" * 59):
            self.check_no_answer(kind, text)

    def test_a_truth_is_no_whole_number(self):
        self.check_misfits(Whole(-3, 12), (True, False, "5", (5,), [5]))

    def test_wrong_texts(self):
        for text in ("-0", "00", "05", "-01", "+5", "5.0", "5.00", "5 5", "- 1", "1 0", "5a", "five", "yes"):
            self.check_no_answer(Whole(-3, 12), text)


class MoneyTest(KindsTest):
    def test_ordinary_money(self):
        kind = Money(-100000, 100000)
        self.assertEqual((kind.low, kind.high), (-100000, 100000))
        for number, text in (
            (1205, "12.05"), (7, "0.07"), (-50, "-0.50"), (0, "0.00"), (1, "0.01"), (-1, "-0.01"), (10, "0.10"),
            (99, "0.99"), (-99, "-0.99"), (100, "1.00"), (-100, "-1.00"), (1000, "10.00"), (-1205, "-12.05"),
            (100000, "1000.00"), (-100000, "-1000.00"),
        ):
            self.check_written(kind, number, text, number)

    def test_every_short_text(self):
        kind = Money(-NINES, NINES)
        form = re.compile("-?(0|[1-9][0-9]*)[.][0-9][0-9]")
        for length in range(7):
            for signs in itertools.product("-.019", repeat=length):
                text = "".join(signs)
                if form.fullmatch(text) and text != "-0.00":
                    self.assertEqual(kind.read(text), int(text.replace(".", "")))
                else:
                    with self.assertRaises(NoAnswer, msg=text):
                        kind.read(text)

    def test_sixty_figures_in_all(self):
        kind = Money(-NINES, NINES)
        self.check_written(kind, NINES, "9" * 58 + ".99", NINES)
        self.check_written(kind, -NINES, "-" + "9" * 58 + ".99", -NINES)
        wide = Money(-(10 ** 62), 10 ** 62)
        for text in ("1" + "0" * 58 + ".00", "-1" + "0" * 58 + ".00", "0" * 58 + "1.00", "9" * 9000 + ".00"):
            self.check_no_answer(kind, text)
            self.check_no_answer(wide, text)

    def test_out_of_bounds(self):
        kind = Money(-50, 1205)
        self.check_misfits(kind, (-51, 1206, 10 ** 59))
        for text in ("-0.51", "12.06", "1205.00"):
            self.check_no_answer(kind, text)

    def test_a_truth_is_no_money(self):
        self.check_misfits(Money(-50, 1205), (True, False, "0.07", (7,), [7]))

    def test_wrong_texts(self):
        for text in ("5", "0", "-5", "0.5", ".50", "-.50", "5.", "5.000", "05.00", "00.07", "-00.50", "-0.00", "+1.00",
                     "1.0a", "1,00", "1 .00", "1. 00", "- 0.50", "0.-5", "0.5-", "--0.50", "1..00", "1.00.", "0.0.7"):
            self.check_no_answer(Money(-NINES, NINES), text)


class PickTest(KindsTest):
    def test_two_words_and_six(self):
        for words in (["red", "blue"], SIX):
            kind = Pick(words)
            self.assertEqual((kind.low, kind.high), (0, len(words) - 1))
            for place, word in enumerate(words):
                self.check_written(kind, word, word, place)
                self.assertEqual(kind.sample(place), word)

    def test_what_is_none_of_the_words(self):
        kind = Pick(["red", "blue"])
        self.check_misfits(kind, ("green", "re", "Red", " red", "red ", "red blue", 0, 1, True, False, ("red",), ["red"]))
        for text in ("green", "re", "d", "Red", "red blue", "r ed", "0", "1", "-"):
            self.check_no_answer(kind, text)

    def test_the_list_is_not_changed_and_a_copy_is_kept(self):
        words = ["red", "blue"]
        kind = Pick(words)
        self.assertEqual(words, ["red", "blue"])
        words[0] = "green"
        words.append("pink")
        self.assertEqual(kind.told(), "pick red blue")
        self.assertEqual(kind.high, 1)
        self.assertEqual(kind.read("red"), "red")
        self.check_misfits(kind, ("green", "pink"))


class NamesTest(KindsTest):
    def test_none_to_the_most(self):
        for most in range(1, 7):
            kind = Names(most)
            self.assertEqual((kind.low, kind.high), (0, most))
            self.check_written(kind, (), "-", 0)
            names = ("zoe", "abcdefghijkl", "yes", "b", "a", "max", "eva")
            for count in range(1, most + 1):
                self.check_written(kind, names[:count], " ".join(names[:count]), count)
            self.check_misfits(kind, (names[:most + 1],))
            self.check_no_answer(kind, " ".join(names[:most + 1]))

    def test_three_where_it_is_left_out(self):
        self.assertEqual(Names().high, 3)
        self.assertEqual(Names().told(), "names 3")

    def test_samples_have_the_first_names(self):
        kind = Names(6)
        for rank in range(7):
            self.assertEqual(kind.sample(rank), tuple("abcdef"[:rank]))
            self.assertIs(type(kind.sample(rank)), tuple)

    def test_what_is_no_tuple_of_unlike_names(self):
        self.check_misfits(Names(6), (
            [], ["a"], ["a", "b"], "a", "-", 0, 1, True, None, ("a", "a"), ("a", "b", "a"), ("",), ("a", ""), ("-",),
            ("A",), ("abcdefghijklm",), ("a b",), (1,), (True,), (None,), (["a"],), (("a",),), ({},), ("a", 1), {"a"},
        ))
        self.check_misfits(Names(6), [(word,) for word in NO_NAMES])

    def test_wrong_texts(self):
        for text in ("a  b", "a\tb", "a\nb", "a, b", "a,b", "a a", "a b a", "A", "a -", "- a", "--", "- -", "()", "0",
                     "abcdefghijklm", "a end", "not"):
            self.check_no_answer(Names(6), text)


class KindOfTest(unittest.TestCase):
    def check_refused(self, thing):
        with self.subTest(thing=thing):
            with self.assertRaises(NoKind):
                kind_of(thing)

    def check_read(self, text, made, low, high):
        with self.subTest(text=text):
            kind = kind_of(text)
            self.assertIs(type(kind), made)
            self.assertEqual((kind.low, kind.high), (low, high))
            self.assertEqual(kind.told(), text)

    def test_yesno(self):
        self.check_read("yesno", YesNo, 0, 1)
        for text in ("yesno ", " yesno", "yesno yes", "yesno 0 1", "Yesno", "yes", "no", "yes no"):
            self.check_refused(text)

    def test_whole(self):
        self.check_read("whole 0 120", Whole, 0, 120)
        self.check_read("whole -7 -3", Whole, -7, -3)
        self.check_read("whole 5 5", Whole, 5, 5)
        self.check_read("whole 0 0", Whole, 0, 0)
        self.check_read("whole -" + "9" * 60 + " " + "9" * 60, Whole, -NINES, NINES)
        for text in ("whole", "whole 1", "whole 1 2 3", "whole 2 1", "whole -1 -2", "whole 1 -1", "whole -0 1",
                     "whole 00 1", "whole 1 02", "whole +1 2", "whole a b", "whole 0.00 1.00", "whole 1  2",
                     "whole  1 2", "whole 1 2 ", " whole 1 2", "whole 1 ", "whole\t1 2", "whole 1 2\n", "whole1 2",
                     "whole 0 1" + "0" * 60, "whole -1" + "0" * 60 + " 0"):
            self.check_refused(text)

    def test_money(self):
        self.check_read("money 0.00 12.05", Money, 0, 1205)
        self.check_read("money -0.50 0.07", Money, -50, 7)
        self.check_read("money 3.50 3.50", Money, 350, 350)
        self.check_read("money -" + "9" * 58 + ".99 " + "9" * 58 + ".99", Money, -NINES, NINES)
        for text in ("money", "money 1.00", "money 1.00 2.00 3.00", "money 2.00 1.99", "money 0.00 -0.01", "money 0 5",
                     "money 0 5.00", "money 0.0 5.00", "money -0.00 5.00", "money .00 5.00", "money 00.00 5.00",
                     "money 0.00  5.00", "money 0.00 5.00 ", " money 0.00 5.00", "money 0.00\t5.00", "money 0.00 5,00",
                     "money 0.00 1" + "0" * 58 + ".00", "money -1" + "0" * 58 + ".00 0.00"):
            self.check_refused(text)

    def test_pick(self):
        self.check_read("pick red blue", Pick, 0, 1)
        self.check_read("pick no yes", Pick, 0, 1)
        self.check_read("pick " + " ".join(SIX), Pick, 0, 5)
        for text in ("pick", "pick ", "pick red", "pick red red", "pick a b a", "pick a b c d e f g", "pick a  b",
                     "pick a b ", " pick a b", "pick a B", "pick a 1", "pick a -", "pick a abcdefghijklm", "pick a\tb",
                     "pick a b\n", "picka b"):
            self.check_refused(text)
        for word in NO_NAMES:
            self.check_refused("pick a " + word)

    def test_names(self):
        for most in range(1, 7):
            self.check_read("names " + str(most), Names, 0, most)
        for text in ("names", "names ", "names 0", "names 7", "names 10", "names 12", "names -1", "names 03", "names +3",
                     "names 3 3", "names  3", "names 3 ", " names 3", "names a", "names\t3", "names 3\n", "names3"):
            self.check_refused(text)

    def test_what_begins_with_no_kind(self):
        for text in ("", " ", "a", "3", "-", "ask", "Whole 1 2", "number 1 2", "1 2", "kind", "names3 3", "\n"):
            self.check_refused(text)

    def test_what_is_no_text(self):
        for thing in NO_TEXTS + (("names", "3"), ["yesno"], b"yesno"):
            self.check_refused(thing)

    def test_each_reading_makes_a_kind_of_its_own(self):
        one = kind_of("pick red blue")
        other = kind_of("pick red blue")
        one.words.append("green")
        self.assertEqual(other.told(), "pick red blue")
        self.assertEqual(kind_of("pick red blue").told(), "pick red blue")


if __name__ == "__main__":
    unittest.main()
