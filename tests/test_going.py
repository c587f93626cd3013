import copy
import random
import unittest

from askpaper.going import straight, sums_of
from askpaper.reading import read_paper
from making import made_book, sound_texts
from plain import PlainPaper
from things import paper_of, paper_tree

HOME = ("sheet home", "ask well yesno", "ask age whole 0 120", "ask kids names 3 when ( well is yes and age > 17 )",
        "refuse adult unless age > 15", "warn full unless kids > 0", "way last when age = 99",
        "sheet child each kids", "ask hue pick red green blue", "ask cost money 0.00 9.00 when hue is red",
        "warn dear unless cost < 500", "sheet last", "ask done yesno", "sum total - 2 kids + age + 10", "sum more total + cost")
FULL = {("well", ""): True, ("age", ""): 40, ("kids", ""): ("ann", "bob"), ("hue", "ann"): "red", ("cost", "ann"): 700,
        ("hue", "bob"): "blue", ("done", ""): False}


class GoingTest(unittest.TestCase):
    def check_log(self, rows, book, log):
        with self.subTest(rows=rows, book=book):
            told = straight(paper_of(*rows), book)
            self.assertEqual(told, log)
            self.assertIs(type(told), list)

    def check_last(self, rows, book, last):
        with self.subTest(rows=rows, book=book):
            self.assertEqual(straight(paper_of(*rows), book)[-1], last)


class StraightTest(GoingTest):
    def test_a_full_book(self):
        self.check_log(HOME, FULL, [
            ("ask", "well", "", True), ("ask", "age", "", 40), ("ask", "kids", "", ("ann", "bob")), ("pass", "adult", ""),
            ("pass", "full", ""), ("ask", "hue", "ann", "red"), ("ask", "cost", "ann", 700), ("warn", "dear", "ann"),
            ("ask", "hue", "bob", "blue"), ("warn", "dear", "bob"), ("ask", "done", "", False), ("end",)])

    def test_the_first_question_without_an_answer_is_open(self):
        log = straight(paper_of(*HOME), FULL)
        for key in FULL:
            book = {other: answer for other, answer in FULL.items() if other != key}
            places = [row[1:3] for row in log]
            self.check_log(HOME, book, log[:places.index(key)] + [("open", *key)])

    def test_held(self):
        book = {("well", ""): True, ("age", ""): 15, ("kids", ""): ()}
        self.check_log(HOME, book, [("ask", "well", "", True), ("ask", "age", "", 15), ("held", "adult", "")])

    def test_held_for_a_thing(self):
        rows = ("sheet one", "ask kids names 3", "sheet two each kids", "ask age whole 0 9", "refuse old unless age < 5")
        book = {("kids", ""): ("bob", "ann", "cid"), ("age", "ann"): 7, ("age", "bob"): 3, ("age", "cid"): 2}
        self.check_log(rows, book, [("ask", "kids", "", ("bob", "ann", "cid")), ("ask", "age", "bob", 3),
                                    ("pass", "old", "bob"), ("ask", "age", "ann", 7), ("held", "old", "ann")])

    def test_a_paper_without_questions(self):
        self.check_log(["sheet one"], {}, [("end",)])
        self.check_log(["sheet one", "sheet two", "way end"], FULL, [("end",)])
        self.check_log(["sheet one", "warn w unless t > 4", "refuse r unless t < 4", "sum t 4"], {},
                       [("warn", "w", ""), ("held", "r", "")])


class BookTest(GoingTest):
    def test_an_answer_of_none_of_the_kind_isnt_there(self):
        kinds = {"yesno": (0, 1, "yes", None, ()), "whole 0 9": (10, -1, True, "3", 3.0, None),
                 "money 0.00 1.00": (101, "0.50", False, 0.5), "pick red green": ("blue", 0, ("red",), ["red"], True),
                 "names 2": (["ann"], ("ann", "ann"), ("a", "b", "c"), "ann", ("end",), (1,), None, True)}
        fit = {"yesno": False, "whole 0 9": 0, "money 0.00 1.00": 0, "pick red green": "red", "names 2": ()}
        for kind, wrong in kinds.items():
            rows = ("sheet one", f"ask a {kind}")
            for answer in wrong:
                self.check_log(rows, {("a", ""): answer}, [("open", "a", "")])
            self.check_log(rows, {("a", ""): fit[kind]}, [("ask", "a", "", fit[kind]), ("end",)])

    def test_keys_that_are_none_count_nothing(self):
        for key in ("a", ("a",), ("a", "", ""), ("a", "ann"), ("b", ""), ("kids", "ann"), ("h", ""), ("h", "zoe"), 7, None,
                    ("one", ""), ("t", "")):
            rows = ("sheet one", "ask a whole 0 9", "ask kids names 2", "sheet two each kids", "ask h whole 0 9",
                    "sheet three", "warn w unless t = 5", "sum t a + h")
            book = {key: 3, ("a", ""): 1, ("kids", ""): ("ann",), ("h", "ann"): 4}
            self.check_log(rows, book, [("ask", "a", "", 1), ("ask", "kids", "", ("ann",)), ("ask", "h", "ann", 4),
                                        ("pass", "w", ""), ("end",)])
        self.check_log(("sheet one", "ask a whole 0 9"), {("a", "ann"): 1, "a": 1}, [("open", "a", "")])

    def test_an_answer_of_a_question_that_isnt_asked_counts_nothing(self):
        rows = ("sheet one", "ask a yesno", "ask b whole 0 9 when a is yes", "warn w unless b > 3", "warn v unless t > 3",
                "sum t b")
        self.check_log(rows, {("a", ""): False, ("b", ""): 9},
                       [("ask", "a", "", False), ("warn", "w", ""), ("warn", "v", ""), ("end",)])


class SheetsTest(GoingTest):
    ROWS = ("sheet one", "ask more yesno", "ask kids names 3 when more is yes", "sheet two each kids", "ask age whole 0 9",
            "warn w unless age > 2", "way four when more is no", "way four when t > 9", "sheet three", "warn x unless t > 3",
            "sheet four", "sum t age")

    def test_in_the_order_of_the_names(self):
        book = {("more", ""): True, ("kids", ""): ("zoe", "ann"), ("age", "ann"): 2, ("age", "zoe"): 3}
        self.check_log(self.ROWS, book, [
            ("ask", "more", "", True), ("ask", "kids", "", ("zoe", "ann")), ("ask", "age", "zoe", 3), ("pass", "w", "zoe"),
            ("ask", "age", "ann", 2), ("warn", "w", "ann"), ("pass", "x", ""), ("end",)])

    def test_for_no_name(self):
        self.check_log(self.ROWS, {("more", ""): True, ("kids", ""): (), ("age", ""): 3, ("age", "ann"): 3}, [
            ("ask", "more", "", True), ("ask", "kids", "", ()), ("warn", "x", ""), ("end",)])

    def test_whose_question_wasnt_asked_and_its_ways_are_tried(self):
        self.check_log(self.ROWS, {("more", ""): False, ("kids", ""): ("ann",), ("age", "ann"): 3}, [
            ("ask", "more", "", False), ("end",)])

    def test_two_sheets_by_one_question(self):
        rows = ("sheet one", "ask kids names 2", "sheet two each kids", "ask a whole 0 9", "sheet three each kids",
                "ask b whole 0 9 when t > 5", "sum t a")
        book = {("kids", ""): ("x", "y"), ("a", "x"): 2, ("a", "y"): 4, ("b", "x"): 1, ("b", "y"): 0}
        self.check_log(rows, book, [("ask", "kids", "", ("x", "y")), ("ask", "a", "x", 2), ("ask", "a", "y", 4),
                                    ("ask", "b", "x", 1), ("ask", "b", "y", 0), ("end",)])


class WaysTest(GoingTest):
    ROWS = ("sheet one", "ask a whole 0 9", "way three when a = 1", "way four when a < 3", "way end when a = 3",
            "way three when a < 5", "sheet two", "warn w unless a > 9", "sheet three", "warn v unless a > 9", "way end",
            "sheet four", "warn u unless a > 9")

    def test_the_first_way_that_holds(self):
        for answer, warned in ((0, "u"), (1, "v"), (2, "u"), (3, ""), (4, "v"), (5, "wv")):
            self.check_log(self.ROWS, {("a", ""): answer},
                           [("ask", "a", "", answer)] + [("warn", name, "") for name in warned] + [("end",)])

    def test_a_way_without_a_saying(self):
        rows = ("sheet one", "way three", "way end", "sheet two", "ask a yesno", "sheet three", "ask b yesno")
        self.check_log(rows, {}, [("open", "b", "")])

    def test_the_last_sheet_is_left_to_the_end(self):
        self.check_log(("sheet one", "way two", "sheet two", "way end when t > 3", "sum t 3"), {}, [("end",)])


class SayingsTest(GoingTest):
    def test_what_wasnt_asked_doesnt_hold_and_not_of_it_does(self):
        rows = ("sheet one", "ask a yesno", "ask b whole 0 9 when a is yes", "ask c yesno when a is yes",
                "ask d names 2 when a is yes", "ask e pick red green when a is yes")
        for saying in ("b < 9", "b = 0", "b > 0", "c is no", "c is yes", "d < 9", "d = 0", "e is red"):
            self.check_log((*rows, f"warn w unless {saying}", f"warn v unless not {saying}"), {("a", ""): False},
                           [("ask", "a", "", False), ("warn", "w", ""), ("pass", "v", ""), ("end",)])

    def test_a_question_on_a_sheet_that_was_left_out(self):
        rows = ("sheet one", "way three", "sheet two", "ask a yesno", "sheet three", "warn w unless a is no",
                "warn v unless t = 0", "sum t a")
        self.check_log(rows, {("a", ""): False}, [("warn", "w", ""), ("pass", "v", ""), ("end",)])

    def test_a_question_of_the_same_sheet_leads_to_the_same_thing(self):
        rows = ("sheet one", "ask kids names 3", "sheet two each kids", "ask a yesno", "ask b whole 0 9 when a is yes",
                "warn w unless b > 4")
        book = {("kids", ""): ("x", "y", "z"), ("a", "x"): True, ("b", "x"): 6, ("a", "y"): False, ("b", "y"): 6,
                ("a", "z"): True, ("b", "z"): 3}
        self.check_log(rows, book, [
            ("ask", "kids", "", ("x", "y", "z")), ("ask", "a", "x", True), ("ask", "b", "x", 6), ("pass", "w", "x"),
            ("ask", "a", "y", False), ("warn", "w", "y"), ("ask", "a", "z", True), ("ask", "b", "z", 3), ("warn", "w", "z"),
            ("end",)])

    def test_a_question_of_another_sheet_leads_to_its_one_answer(self):
        rows = ("sheet one", "ask kids names 3", "ask a yesno", "sheet two each kids", "ask b yesno when a is yes",
                "ask c yesno when kids > 1")
        book = {("kids", ""): ("x",), ("a", ""): True, ("b", "x"): True}
        self.check_last(rows, book, ("end",))
        self.check_last(rows, {**book, ("kids", ""): ("x", "y")}, ("open", "c", "x"))

    def test_by_ranks(self):
        rows = ("sheet one", "ask cost money 0.00 9.00", "ask kids names 3", "ask hue pick red green",
                "warn dear unless cost < 350", "warn few unless kids > 1", "warn red unless hue is red")
        book = {("cost", ""): 349, ("kids", ""): ("x", "y"), ("hue", ""): "red"}
        log = straight(paper_of(*rows), book)
        self.assertEqual([row[0] for row in log[3:]], ["pass", "pass", "pass", "end"])
        log = straight(paper_of(*rows), {("cost", ""): 350, ("kids", ""): ("x",), ("hue", ""): "green"})
        self.assertEqual([row[0] for row in log[3:]], ["warn", "warn", "warn", "end"])

    def test_a_sum_by_the_answers_of_all_things(self):
        rows = ("sheet one", "ask kids names 3", "ask well yesno", "warn u unless s = 14", "sheet two each kids",
                "ask a whole -9 9", "warn v unless s = 14", "way three when t = 9", "way end", "sheet three",
                "warn w unless t = 9", "warn x unless r = 18", "sum t 2 a + kids - 3", "sum s 2 kids + 10 well", "sum r 2 t")
        book = {("kids", ""): ("x", "y"), ("well", ""): True, ("a", "x"): -3, ("a", "y"): 8, ("a", "z"): 5}
        self.check_log(rows, book, [
            ("ask", "kids", "", ("x", "y")), ("ask", "well", "", True), ("pass", "u", ""), ("ask", "a", "x", -3),
            ("pass", "v", "x"), ("ask", "a", "y", 8), ("pass", "v", "y"), ("pass", "w", ""), ("pass", "x", ""), ("end",)])

    def test_a_question_of_a_sum_that_wasnt_asked_is_worth_nothing(self):
        rows = ("sheet one", "ask a whole 0 9", "ask b whole 0 9 when a > 3", "warn w unless t = 7", "sum t a + 2 b + 4")
        self.check_log(rows, {("a", ""): 3, ("b", ""): 9}, [("ask", "a", "", 3), ("pass", "w", ""), ("end",)])


class SumsTest(GoingTest):
    def test_of_a_log(self):
        paper = paper_of(*HOME)
        self.assertEqual(sums_of(paper, straight(paper, FULL)), [("total", 46), ("more", 746)])
        self.assertEqual(sums_of(paper, [("end",)]), [("total", 10), ("more", 10)])

    def test_by_what_was_asked_alone(self):
        paper = paper_of(*HOME)
        book = dict(FULL)
        del book["done", ""]
        self.assertEqual(sums_of(paper, straight(paper, book)), [("total", 46), ("more", 746)])
        book["well", ""] = False
        self.assertEqual(sums_of(paper, straight(paper, book)), [("total", 50), ("more", 50)])
        self.assertEqual(sums_of(paper, straight(paper, {("cost", "ann"): 7})), [("total", 10), ("more", 10)])

    def test_in_the_papers_order(self):
        paper = paper_of("sheet one", "ask a yesno", "ask b names 2", "sum t u + a", "sum s 3", "sum u 2 b - 9")
        log = [("ask", "a", "", True), ("ask", "b", "", ("x", "y")), ("end",)]
        told = sums_of(paper, log)
        self.assertEqual(told, [("t", -4), ("s", 3), ("u", -5)])
        self.assertIs(type(told), list)

    def test_without_sums(self):
        self.assertEqual(sums_of(paper_of("sheet one"), [("end",)]), [])

    def test_of_more_questions_than_are_in_reach_of_one_row(self):
        paper = paper_of("sheet one", "ask a whole 0 9", "way end when a > 5", "sheet two", "ask b whole 0 9", "sum t a - b")
        self.assertEqual(sums_of(paper, straight(paper, {("a", ""): 6, ("b", ""): 9})), [("t", 6)])
        self.assertEqual(sums_of(paper, straight(paper, {("a", ""): 5, ("b", ""): 9})), [("t", -4)])


class ManyGoingsTest(GoingTest):
    def test_many_papers_and_books(self):
        rng = random.Random(21)
        ends = {}
        for text in sound_texts(500, 22):
            paper, plain = read_paper(text), PlainPaper(text)
            for holes in (0, 0, 0.05, 0.3):
                book = made_book(rng, plain, holes)
                with self.subTest(text=text, book=book):
                    log = straight(paper, book)
                    self.assertEqual(log, plain.straight(book))
                    self.assertEqual(sums_of(paper, log), plain.sums_now())
                    ends.setdefault(log[-1][0], []).append(len(log))
        self.assertEqual(sorted(ends), ["end", "held", "open"])
        self.assertTrue(all(max(lengths) > 9 and len(lengths) > 99 for lengths in ends.values()))

    def test_what_is_handed_in_stays_and_what_is_told_is_the_askers_own(self):
        rng = random.Random(23)
        for text in sound_texts(60, 24):
            paper, plain = read_paper(text), PlainPaper(text)
            book = made_book(rng, plain, 0.1)
            log = straight(paper, book)
            kept = copy.deepcopy((paper_tree(paper), book, log))
            sums = sums_of(paper, log)
            self.assertEqual((paper_tree(paper), book, log), kept)
            log.clear()
            sums.clear()
            log = straight(paper, book)
            self.assertEqual((paper_tree(paper), book, log), kept)
            self.assertEqual(sums_of(paper, log), plain_sums(plain, book))


def plain_sums(plain, book):
    plain.straight(book)
    return plain.sums_now()


if __name__ == "__main__":
    unittest.main()
