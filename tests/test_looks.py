import copy
import unittest

from askpaper import errors
from askpaper.kinds import Whole, YesNo
from askpaper.looks import kinds_of, look_at, put_together, questions_of
from askpaper.papers import Ask, Check, Paper, Sheet
from askpaper.reading import read_paper
from askpaper.sayings import Compare, Is
from making import loose_texts, sound_texts
from plain import PlainPaper
from things import paper_of, paper_tree

# Of each kind a question; of the sheets, one comes again.
ASKS = ("sheet one", "ask truth yesno", "ask age whole 0 9", "ask cost money 0.00 9.00", "ask hue pick red green",
        "ask kids names 2", "sheet two each kids", "ask hat yesno", "ask size whole 0 9", "sheet three", "ask last whole 0 9")


class LooksTest(unittest.TestCase):
    def check_sound(self, *rows):
        with self.subTest(rows=rows):
            self.assertIsNone(look_at(paper_of(*rows)))

    def check_refused(self, paper, error, name):
        with self.assertRaises(errors.AskError) as caught:
            look_at(paper)
        self.assertEqual((type(caught.exception), caught.exception.name), (error, name))
        self.assertIs(type(caught.exception.name), str)

    def check_rows_refused(self, error, name, *rows):
        with self.subTest(rows=rows):
            self.check_refused(paper_of(*rows), error, name)

    def check_ring(self, rings, *rows):
        """Rings are told as all lists that would do."""
        with self.subTest(rows=rows):
            with self.assertRaises(errors.Ring) as caught:
                look_at(paper_of("sheet one", "ask age whole 0 9", *rows))
            self.assertIn(caught.exception.ring, rings)


class KindsTest(LooksTest):
    def test_kinds_of_all_questions(self):
        kinds = kinds_of(paper_of(*ASKS, "refuse check unless age > 1", "sum total age"))
        self.assertEqual([(name, kind.told()) for name, kind in kinds.items()], [
            ("truth", "yesno"), ("age", "whole 0 9"), ("cost", "money 0.00 9.00"), ("hue", "pick red green"),
            ("kids", "names 2"), ("hat", "yesno"), ("size", "whole 0 9"), ("last", "whole 0 9")])

    def test_a_paper_without_questions(self):
        self.assertEqual(kinds_of(paper_of("sheet one")), {})

    def test_it_is_a_new_dict(self):
        paper = paper_of(*ASKS)
        kinds_of(paper).clear()
        self.assertEqual(len(kinds_of(paper)), 8)


class PutTogetherTest(LooksTest):
    def check_sum(self, name, questions, terms, plus, *sums):
        paper = paper_of("sheet one", *[f"ask {name} whole 0 9" for name in "abcdef"], *[f"sum {row}" for row in sums])
        with self.subTest(sums=sums, name=name):
            told = put_together(paper, name)
            self.assertEqual(told, (terms, plus))
            self.assertEqual((type(told), type(told[0])), (tuple, list))
            self.assertEqual(questions_of(paper, name), questions)

    def test_sums_of_questions_and_numbers(self):
        self.check_sum("t", ["b", "a"], [(-2, "b"), (1, "a")], 7, "t - 2 b + a + 10 - 3")
        self.check_sum("t", [], [], 0, "t 0")
        self.check_sum("t", [], [], -4, "t - 4")

    def test_a_sum_in_a_sum_is_taken_in_place(self):
        self.check_sum("t", ["c", "a", "b"], [(3, "c"), (2, "a"), (-8, "b")], 13, "t 3 c + 2 u + 3", "u a - 4 b + 5")
        self.check_sum("u", ["a", "b"], [(1, "a"), (-4, "b")], 5, "t 3 c + 2 u + 3", "u a - 4 b + 5")
        self.check_sum("t", ["a", "c"], [(-12, "a"), (1, "c")], -6, "w 2 a + 1", "u 3 w", "t - 2 u + c")

    def test_times_are_added_through_all_sums(self):
        self.check_sum("t", ["a", "b"], [(6, "a"), (2, "b")], 0, "t a + 2 u + v", "u a + b", "v 3 a")

    def test_times_that_come_to_nought_are_left_out(self):
        self.check_sum("t", ["a"], [], 0, "t a - u", "u a")
        self.check_sum("t", ["b", "a"], [(1, "b")], 2, "t b + 2 a - 2 u", "u a - 1")

    def test_a_question_stands_where_it_comes_first_though_it_comes_to_nought_there(self):
        self.check_sum("t", ["a", "b"], [(1, "a"), (1, "b")], 0, "t u + b + a", "u a - v", "v a")

    def test_many_sums_in_sums(self):
        names = "mnopqrstuvwx"
        sums = [f"{name} " + " + ".join(names[place + 1:] + "a") for place, name in enumerate(names)]
        self.check_sum("m", ["a"], [(2048, "a")], 0, *sums)

    def test_great_numbers(self):
        nines = "9" * 60
        self.check_sum("t", ["a"], [(int(nines) ** 3, "a")], int(nines), f"t {nines} u + {nines}",
                       f"u {nines} v", f"v {nines} a")

    def test_what_is_told_is_the_askers_own(self):
        paper = paper_of("sheet one", "ask a whole 0 9", "sum t 2 a + u", "sum u a")
        before = paper_tree(paper)
        put_together(paper, "t")[0].clear()
        questions_of(paper, "t").clear()
        put_together(paper, "u")[0].append(3)
        self.assertEqual(put_together(paper, "t"), ([(3, "a")], 0))
        self.assertEqual(questions_of(paper, "t"), ["a"])
        self.assertEqual(put_together(paper, "u"), ([(1, "a")], 0))
        self.assertEqual(paper_tree(paper), before)

    def test_many_papers(self):
        for text in sound_texts(400, 11):
            paper, plain = read_paper(text), PlainPaper(text)
            for name, _ in plain.sums:
                with self.subTest(text=text, name=name):
                    flat = [question for _, question in plain.flat(name, 1) if question is not None]
                    self.assertEqual(put_together(paper, name), plain.terms(name))
                    self.assertEqual(questions_of(paper, name), list(dict.fromkeys(flat)))


class FirstRoundTest(LooksTest):
    def test_each_two_of_sheet_question_check_and_sum(self):
        rows = {"sheet": "sheet x", "ask": "ask x yesno", "refuse": "refuse x unless truth is yes",
                "warn": "warn x unless truth is yes", "sum": "sum x truth"}
        for first, one in rows.items():
            for second, other in rows.items():
                if first == "sum" and second != "sum":
                    continue
                self.check_rows_refused(errors.Twice, "x", "sheet one", "ask truth yesno", one, other)
            self.check_sound("sheet one", "ask truth yesno", one)

    def test_in_sheets_apart(self):
        self.check_rows_refused(errors.Twice, "age", "sheet one", "ask age yesno", "sheet two", "ask age yesno")
        self.check_rows_refused(errors.Twice, "one", "sheet one", "sheet two", "ask one yesno")
        self.check_rows_refused(errors.Twice, "two", "sheet one", "ask two yesno", "sheet two")

    def test_the_papers_own_name_and_the_words_of_kinds_dont_count(self):
        self.assertIsNone(look_at(read_paper("paper one\nsheet one\nask two yesno")))
        self.assertIsNone(look_at(read_paper("paper two\nsheet one\nask two yesno\nsum three two")))
        self.check_sound("sheet one", "ask hue pick one hue", "ask pick pick red yesno", "ask red names 2")
        self.check_sound("sheet one", "ask sum whole 0 9", "refuse yes unless sum > 2", "sum no sum")

    def test_the_first_name_that_comes_again_is_told(self):
        self.check_rows_refused(errors.Twice, "b", "sheet one", "ask a yesno", "ask b yesno", "ask b yesno", "ask a yesno")
        self.check_rows_refused(errors.Twice, "a", "sheet one", "ask a yesno", "ask b yesno", "sheet a", "sum b a")


class EachTest(LooksTest):
    def test_the_question_by_which_a_sheet_comes_again(self):
        self.check_sound("sheet one", "ask kids names 2", "sheet two each kids")
        self.check_rows_refused(errors.Unknown, "kids", "sheet one", "sheet two each kids")

    def test_what_is_no_question(self):
        for row in ("sheet kids", "refuse kids unless age > 1", "sum kids age"):
            rows = ["sheet one", "ask age whole 0 9", row, "sheet two each kids"]
            if row.startswith("sum"):
                rows = rows[:2] + [rows[3], row]
            self.check_rows_refused(errors.Unknown, "kids", *rows)

    def test_what_is_of_another_kind(self):
        for name in ("truth", "age", "cost", "hue"):
            self.check_rows_refused(errors.WrongKind, name, *ASKS, f"sheet four each {name}")

    def test_its_kind_is_looked_at_where_it_stands_behind_too(self):
        self.check_rows_refused(errors.WrongKind, "age", "sheet one each age", "ask age whole 0 9")


class AtomsTest(LooksTest):
    PLACES = ("ask new yesno when {}", "refuse new unless {}", "warn new unless {}", "way end when {}")

    def check_everywhere(self, error, name, saying, *sums):
        for row in self.PLACES:
            rows = (*ASKS, row.format(saying), *sums)
            if error is None:
                self.check_sound(*rows)
            else:
                self.check_rows_refused(error, name, *rows)

    def test_atoms_that_suit(self):
        for saying in ("truth is yes", "truth is no", "age < 3", "cost = 3", "hue is red", "kids > 1", "total > 2"):
            self.check_everywhere(None, None, saying, "sum total age")

    def test_names_that_are_none_of_a_question_or_a_sum(self):
        for name in ("nope", "one", "two", "p", "red"):
            self.check_everywhere(errors.Unknown, name, f"{name} > 2", "sum total age")
            self.check_everywhere(errors.Unknown, name, f"{name} is yes", "sum total age")
        self.check_rows_refused(errors.Unknown, "new", "sheet one", "ask a whole 0 9", "warn new unless a > 2",
                                "warn newer unless new > 2")

    def test_atoms_that_dont_suit(self):
        for name, saying in (("truth", "truth is red"), ("truth", "truth > 0"), ("hue", "hue is blue"),
                             ("hue", "hue is yes"), ("hue", "hue = 0"), ("age", "age is yes"), ("cost", "cost is red"),
                             ("kids", "kids is ann"), ("total", "total is yes"), ("total", "total is no")):
            self.check_everywhere(errors.WrongKind, name, saying, "sum total truth")

    def test_the_first_atom_in_the_order_of_writing(self):
        self.check_everywhere(errors.Unknown, "nope", "( ( age > 2 and nope > 2 ) or hue > 2 )")
        self.check_everywhere(errors.WrongKind, "hue", "( not hue > 2 and nope > 2 )")

    def test_questions_behind_are_known(self):
        self.check_rows_refused(errors.WrongKind, "b", "sheet one", "ask a yesno when b is red", "ask b yesno")

    def test_sayings_that_were_made_and_not_read(self):
        rows = [Ask("a", YesNo()), Ask("b", Whole(0, 3), Is("a", "yes")), Check("c", Is("a", "maybe"), False)]
        self.check_refused(Paper("p", [Sheet("s", None, rows, [])], []), errors.WrongKind, "a")
        self.assertIsNone(look_at(Paper("p", [Sheet("s", None, rows[:2], [("end", Compare("b", "<", 2))])], [])))


class WaysTest(LooksTest):
    def test_targets(self):
        rows = ("sheet one", "sheet two", "ask a yesno", "way {}", "sheet three", "sheet four")
        for target in ("end", "three", "four"):
            self.check_sound(*[row.format(target) for row in rows])
        for target in ("one", "two", "nope", "a", "p", "t"):
            self.check_rows_refused(errors.NoWay, target, *[row.format(target) for row in rows], "sum t a")

    def test_of_the_last_sheet(self):
        self.check_sound("sheet one", "way end")
        self.check_rows_refused(errors.NoWay, "one", "sheet one", "way one")

    def test_a_way_of_a_sheet_that_comes_again_to_itself(self):
        self.check_rows_refused(errors.NoWay, "two", "sheet one", "ask kids names 2", "sheet two each kids", "way two")

    def test_the_target_is_looked_at_ahead_of_its_saying_and_behind_the_rows(self):
        self.check_rows_refused(errors.NoWay, "one", "sheet one", "way end", "way one when nope > 2")
        self.check_rows_refused(errors.Unknown, "nope", "sheet one", "way end when nope > 2", "way one")
        self.check_rows_refused(errors.Unknown, "nope", "sheet one", "warn w unless nope > 2", "way one")


class PartsTest(LooksTest):
    def test_parts_that_suit(self):
        self.check_sound(*ASKS, "sum t truth + age + cost - 2 kids + hat + size + last + u - 3", "sum u 2")

    def test_parts_that_dont(self):
        self.check_rows_refused(errors.WrongKind, "hue", *ASKS, "sum t age + 2 hue + nope")
        self.check_rows_refused(errors.Unknown, "nope", *ASKS, "sum t age + nope - hue")
        for name in ("one", "p", "red"):
            self.check_rows_refused(errors.Unknown, name, *ASKS, f"sum t {name}")
        self.check_rows_refused(errors.Unknown, "w", *ASKS, "warn w unless age > 2", "sum t w")


class SecondRoundTest(LooksTest):
    def test_rows_are_taken_in_the_order_of_the_text(self):
        faults = ["sheet two each age", "ask a yesno when b > 2", "warn c unless d > 2", "way one when f > 2"]
        told = [(errors.WrongKind, "age"), (errors.Unknown, "b"), (errors.Unknown, "d"), (errors.NoWay, "one")]
        mended = ["sheet two", "ask a yesno", "warn c unless age > 2", "way end"]
        for place, (error, name) in enumerate(told):
            self.check_rows_refused(error, name, "sheet one", "ask age whole 0 9", *mended[:place], *faults[place:],
                                    "sum t g")
        self.check_rows_refused(errors.Unknown, "g", "sheet one", "ask age whole 0 9", *mended, "sum t g")


class RingTest(LooksTest):
    def test_a_sum_with_itself_among_its_parts(self):
        self.check_ring([["t"]], "sum t t")
        self.check_ring([["u"]], "sum t age + u", "sum u age - 2 u + 3")

    def test_rings_of_two_and_more(self):
        self.check_ring([["t", "u"], ["u", "t"]], "sum t u", "sum u age + 2 t")
        self.check_ring([["t", "u", "v"], ["u", "v", "t"], ["v", "t", "u"]], "sum v age - t", "sum t u + w", "sum u v",
                        "sum w 3")

    def test_what_only_leads_to_a_ring_is_none_of_it(self):
        self.check_ring([["u", "v"], ["v", "u"]], "sum s t", "sum t u + age", "sum u v + w", "sum v u", "sum w age")

    def test_a_ring_of_twelve(self):
        names = "bcdefghijklm"
        turned = [list(names[place:] + names[:place]) for place in range(12)]
        self.check_ring(turned, *[f"sum {name} {after}" for name, after in zip(names, names[1:] + names[:1])])

    def test_one_of_two_rings(self):
        self.check_ring([["t"], ["u", "v"], ["v", "u"]], "sum t t", "sum u v", "sum v u")

    def test_sums_that_meet_again_are_no_ring(self):
        self.check_sound("sheet one", "ask age whole 0 9", "sum s t + u + age", "sum t v", "sum u v + t", "sum v age")


class ReachTest(LooksTest):
    ALONE = ("sheet one", "ask early whole 0 9", "ask kids names 2", "sheet two", "ask far whole 0 9", "ask here whole 0 9",
             "{}", "ask late whole 0 9", "{}", "sheet three", "ask later whole 0 9")
    AGAIN = ALONE[:3] + ("sheet two each kids",) + ALONE[4:]
    BEHIND = AGAIN[:6] + ("sheet four", "ask mid whole 0 9", "{}", "{}", "sheet three", "ask later whole 0 9")
    SUMS = {"tearly": ["sum tearly early"], "there": ["sum there 2 here"], "tlate": ["sum tlate late"],
            "tlater": ["sum tlater later + early"], "tnone": ["sum tnone 4"], "tboth": ["sum tboth early - here"],
            "tdeep": ["sum tdeep u + v", "sum u early", "sum v late"], "tmid": ["sum tmid mid"],
            "tgone": ["sum tgone here - u", "sum u here"]}

    def check_reach(self, rows, name, by_row, by_way):
        """Whether a name is in reach of a row at the first gap, of a way at the second one."""
        for kind in ("ask new yesno when {} > 2", "warn new unless {} > 2", "refuse new unless not {} > 2"):
            self.check_gap(rows, name, 0, kind.format(name), by_row)
        self.check_gap(rows, name, 1, f"way end when {name} > 2", by_way)

    def check_gap(self, rows, name, gap, row, reached):
        gaps = [place for place, text in enumerate(rows) if text == "{}"]
        filled = [row if place == gaps[gap] else text for place, text in enumerate(rows)]
        told = [text for text in filled if text != "{}"] + self.SUMS.get(name, [])
        if reached:
            self.check_sound(*told)
        else:
            self.check_rows_refused(errors.OutOfReach, name, *told)

    def test_questions_where_the_sheet_doesnt_come_again(self):
        self.check_reach(self.ALONE, "early", True, True)
        self.check_reach(self.ALONE, "far", True, True)
        self.check_reach(self.ALONE, "here", True, True)
        self.check_reach(self.ALONE, "late", False, True)
        self.check_reach(self.ALONE, "later", False, False)

    def test_questions_where_the_sheet_comes_again(self):
        self.check_reach(self.AGAIN, "early", True, True)
        self.check_reach(self.AGAIN, "far", True, False)
        self.check_reach(self.AGAIN, "here", True, False)
        self.check_reach(self.AGAIN, "late", False, False)
        self.check_reach(self.AGAIN, "later", False, False)

    def test_questions_where_an_earlier_sheet_comes_again(self):
        self.check_reach(self.BEHIND, "early", True, True)
        self.check_reach(self.BEHIND, "here", False, False)
        self.check_reach(self.BEHIND, "mid", True, True)
        self.check_reach(self.BEHIND, "later", False, False)

    def test_sums_where_the_sheet_doesnt_come_again(self):
        self.check_reach(self.ALONE, "tearly", True, True)
        self.check_reach(self.ALONE, "there", True, True)
        self.check_reach(self.ALONE, "tlate", False, True)
        self.check_reach(self.ALONE, "tlater", False, False)
        self.check_reach(self.ALONE, "tnone", True, True)
        self.check_reach(self.ALONE, "tboth", True, True)
        self.check_reach(self.ALONE, "tdeep", False, True)

    def test_sums_where_the_sheet_comes_again(self):
        self.check_reach(self.AGAIN, "tearly", True, True)
        self.check_reach(self.AGAIN, "there", False, True)
        self.check_reach(self.AGAIN, "tlate", False, True)
        self.check_reach(self.AGAIN, "tlater", False, False)
        self.check_reach(self.AGAIN, "tnone", True, True)
        self.check_reach(self.AGAIN, "tboth", False, True)
        self.check_reach(self.AGAIN, "tdeep", False, True)

    def test_a_question_counts_though_its_times_come_to_nought(self):
        self.check_reach(self.ALONE, "tgone", True, True)
        self.check_reach(self.AGAIN, "tgone", False, True)

    def test_sums_where_an_earlier_sheet_comes_again(self):
        self.check_reach(self.BEHIND, "tearly", True, True)
        self.check_reach(self.BEHIND, "there", True, True)
        self.check_reach(self.BEHIND, "tmid", True, True)
        self.check_reach(self.BEHIND, "tlater", False, False)

    def test_a_question_is_out_of_its_own_reach(self):
        self.check_rows_refused(errors.OutOfReach, "a", "sheet one", "ask a whole 0 9 when a > 2")
        self.check_rows_refused(errors.OutOfReach, "t", "sheet one", "ask a whole 0 9 when t > 2", "sum t a")

    def test_the_question_by_which_a_sheet_comes_again(self):
        kids = "ask kids names 2"
        self.check_sound("sheet one", kids, "sheet two", "sheet three each kids", "sheet four each kids")
        self.check_rows_refused(errors.OutOfReach, "kids", "sheet one each kids", kids)
        self.check_rows_refused(errors.OutOfReach, "kids", "sheet one each kids", "sheet two", kids)
        self.check_rows_refused(errors.OutOfReach, "toys", "sheet one", kids, "sheet two each kids", "ask toys names 2",
                                "sheet three each toys")

    def test_the_first_one_out_of_reach_is_told(self):
        rows = ["sheet one", "ask kids names 2", "ask n whole 0 9 when kids > 0", "sheet two each kids",
                "ask x yesno when ( n > 2 and ( t > 2 or y > 2 ) )", "ask y whole 0 9", "way end when z > 2",
                "sheet three each toys", "ask z whole 0 9", "ask toys names 2", "sum t y + n"]
        for name in ("t", "y", "z"):
            self.check_rows_refused(errors.OutOfReach, name, *rows)
            rows = [row.replace(f"{name} > 2", "n > 2") for row in rows]
        self.check_rows_refused(errors.OutOfReach, "toys", *rows)
        self.check_sound(*[row.replace("each toys", "each kids") for row in rows])


class RoundsTest(LooksTest):
    # Each fault alone and with one of each later round, in rows that stand ahead of it.
    TWICE = ["ask kids names 3"]
    UNKNOWN = ["warn b unless nope > 2"]
    RING = ["sum t t"]
    REACH = ["warn d unless late > 2"]

    def check_told(self, error, name, rows, sums=()):
        rows = ("sheet one", "ask kids names 2", *rows, "sheet two", "ask late whole 0 9", *sums)
        if name is None:
            with self.assertRaises(errors.Ring) as caught:
                look_at(paper_of(*rows))
            self.assertEqual(caught.exception.ring, ["t"])
        else:
            self.check_rows_refused(error, name, *rows)

    def test_the_earlier_rounds_fault_is_told(self):
        self.check_told(errors.Twice, "kids", self.REACH + self.UNKNOWN + self.TWICE, self.RING)
        self.check_told(errors.Unknown, "nope", self.REACH + self.UNKNOWN, self.RING)
        self.check_told(errors.Ring, None, self.REACH, self.RING)
        self.check_told(errors.OutOfReach, "late", self.REACH)

    def test_a_way_is_looked_at_ahead_of_rings_and_reaches(self):
        self.check_told(errors.NoWay, "one", self.REACH + ["way one"], self.RING)

    def test_a_part_is_looked_at_ahead_of_rings_and_reaches(self):
        self.check_told(errors.Unknown, "nope", self.REACH, self.RING + ["sum u nope"])


class LookedAtTest(LooksTest):
    def fault_of(self, paper):
        try:
            self.assertIsNone(look_at(paper))
        except errors.Ring as error:
            parts = dict(paper.totals)
            self.assertEqual(len(set(error.ring)), len(error.ring))
            self.assertIs(type(error.ring), list)
            for name, after in zip(error.ring, error.ring[1:] + error.ring[:1]):
                self.assertIn(after, [part for _, part in parts[name]])
            return ("Ring", None)
        except errors.AskError as error:
            return (type(error).__name__, error.name)
        return None

    def test_many_papers(self):
        told = {}
        for text in loose_texts(1500, 12):
            with self.subTest(text=text):
                fault = self.fault_of(read_paper(text))
                self.assertEqual(fault, PlainPaper(text).first_fault())
                told.setdefault(fault and fault[0], []).append(text)
        self.assertEqual(len(told), 7)
        self.assertTrue(all(len(texts) > 9 for texts in told.values()))

    def test_many_sound_papers(self):
        for text in sound_texts(300, 13):
            with self.subTest(text=text):
                self.assertIsNone(look_at(read_paper(text)))

    def test_the_paper_stays_as_it_was(self):
        for text in loose_texts(100, 14):
            paper = read_paper(text)
            before = copy.deepcopy(paper_tree(paper))
            self.fault_of(paper)
            self.assertEqual(paper_tree(paper), before)


if __name__ == "__main__":
    unittest.main()
