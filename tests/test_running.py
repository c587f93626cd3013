import collections
import copy
import random
import unittest

from askpaper.going import straight
from askpaper.pages import pages_of
from askpaper.reading import read_paper
from askpaper.running import run
from making import WRONG_ANSWERS, made_book, rich_texts, sound_texts
from plain import PlainPaper, plain_run
from things import paper_of

KIDS = ("sheet one", "ask kids names 3", "sheet two each kids", "ask age whole 0 9", "ask job yesno when age > 4",
        "refuse old unless not age = 9", "warn idle unless ( job is yes or age < 3 )", "way end when t > 12", "sheet three",
        "ask done yesno", "sum t age + 2 job")


class RunTest(unittest.TestCase):
    def check_run(self, rows, book, log):
        paper = paper_of(*rows)
        with self.subTest(rows=rows, book=book):
            told = run(pages_of(paper), book)
            self.assertIs(type(told), list)
            self.assertEqual(told, log)
            self.assertEqual(straight(paper, book), log)

    def check_pages(self, pages, book, log):
        with self.subTest(pages=pages, book=book):
            self.assertEqual(run(pages, book), log)
            self.assertEqual(plain_run(pages, book), log)


class OfPapersTest(RunTest):
    def test_without_rows(self):
        self.check_run(("sheet one",), {}, [("end",)])
        self.check_run(("sheet one",), {("a", ""): True}, [("end",)])

    def test_without_answers(self):
        self.check_run(KIDS, {}, [("open", "kids", "")])
        self.check_run(("sheet one", "warn w unless t > 3", "ask a yesno", "sum t 3"), {}, [("warn", "w", ""), ("open", "a", "")])

    def test_open_held_and_at_its_end(self):
        book = {("kids", ""): ("zoe", "bob"), ("age", "zoe"): 3}
        log = [("ask", "kids", "", ("zoe", "bob")), ("ask", "age", "zoe", 3), ("pass", "old", "zoe"), ("warn", "idle", "zoe")]
        self.check_run(KIDS, book, log + [("open", "age", "bob")])
        self.check_run(KIDS, {**book, ("age", "bob"): 9, ("job", "bob"): True}, log + [
            ("ask", "age", "bob", 9), ("ask", "job", "bob", True), ("held", "old", "bob")])
        log += [("ask", "age", "bob", 8), ("ask", "job", "bob", True), ("pass", "old", "bob"), ("pass", "idle", "bob")]
        book = {**book, ("age", "bob"): 8, ("job", "bob"): True}
        self.check_run(KIDS, book, log + [("end",)])
        book["age", "zoe"] = 2
        log[1:4] = [("ask", "age", "zoe", 2), ("pass", "old", "zoe"), ("pass", "idle", "zoe")]
        self.check_run(KIDS, book, log + [("open", "done", "")])
        self.check_run(KIDS, {**book, ("done", ""): False}, log + [("ask", "done", "", False), ("end",)])

    def test_for_no_things(self):
        self.check_run(KIDS, {("kids", ""): (), ("done", ""): True},
                       [("ask", "kids", "", ()), ("ask", "done", "", True), ("end",)])

    def test_things_of_a_question_that_wasnt_asked(self):
        rows = ("sheet one", "ask go yesno", "ask kids names 2 when go is yes", "sheet two each kids", "ask a yesno")
        self.check_run(rows, {("go", ""): False, ("kids", ""): ("zoe",), ("a", "zoe"): True}, [("ask", "go", "", False), ("end",)])

    def test_answers_that_are_none(self):
        for wrong in WRONG_ANSWERS:
            self.check_run(("sheet one", "ask a whole 0 9", "ask b yesno"), {("a", ""): wrong, ("b", ""): True}, [("open", "a", "")])
            self.check_run(KIDS, {("kids", ""): ("zoe",), ("age", "zoe"): wrong},
                           [("ask", "kids", "", ("zoe",)), ("open", "age", "zoe")])
        for kind, wrong in (("yesno", 1), ("yesno", "yes"), ("whole 0 9", True), ("whole 0 9", 10), ("pick v w", 0),
                            ("pick v w", "x"), ("names 2", ["v"]), ("names 2", ("v", "w", "x")), ("names 2", 2),
                            ("money 0.00 1.00", "0.50"), ("money 0.00 1.00", 101)):
            self.check_run(("sheet one", f"ask a {kind}"), {("a", ""): wrong}, [("open", "a", "")])

    def test_answers_for_other_things_dont_count(self):
        self.check_run(("sheet one", "ask a yesno"), {("a", "zoe"): True}, [("open", "a", "")])
        self.check_run(KIDS, {("kids", ""): ("zoe",), ("age", ""): 3, ("age", "bob"): 4},
                       [("ask", "kids", "", ("zoe",)), ("open", "age", "zoe")])

    def test_what_isnt_asked_counts_nothing_though_the_book_has_it(self):
        rows = ("sheet one", "ask a yesno", "ask b whole 0 9 when a is yes", "warn v unless b > 4", "warn w unless not b > 4",
                "warn x unless t > 4", "sum t b")
        self.check_run(rows, {("a", ""): False, ("b", ""): 7},
                       [("ask", "a", "", False), ("warn", "v", ""), ("pass", "w", ""), ("warn", "x", ""), ("end",)])

    def test_ranks(self):
        rows = ("sheet one", "ask a yesno", "ask b money -1.00 9.00", "ask c pick red green blue", "ask d names 3",
                "warn v unless a is yes", "warn w unless b = -50", "warn x unless c is blue", "warn y unless d = 2",
                "warn z unless t = -47", "sum t a + b + d")
        book = {("a", ""): True, ("b", ""): -50, ("c", ""): "blue", ("d", ""): ("zoe", "bob")}
        asks = [("ask", name, "", book[name, ""]) for name in "abcd"]
        self.check_run(rows, book, asks + [("pass", name, "") for name in "vwxyz"] + [("end",)])

    def test_at_the_bounds(self):
        big = 10 ** 60 - 1
        rows = ("sheet one", f"ask a whole {-big} {big}", "warn v unless t > 0", f"sum t {big} a - 1")
        self.check_run(rows, {("a", ""): big}, [("ask", "a", "", big), ("pass", "v", ""), ("end",)])
        self.check_run(rows, {("a", ""): -big}, [("ask", "a", "", -big), ("warn", "v", ""), ("end",)])
        self.check_run(rows, {("a", ""): big + 1}, [("open", "a", "")])


class OfPagesTest(RunTest):
    """Pages as they might stand in another order, or as no paper is made to them."""

    def test_each_end(self):
        self.check_pages([("end",)], {}, [("end",)])
        self.check_pages([("held", "c", None)], {}, [("held", "c", "")])
        self.check_pages([("ask", "a", "yesno", None, 1), ("end",)], {}, [("open", "a", "")])

    def test_it_begins_at_page_0_and_goes_as_the_numbers_tell(self):
        pages = [("pass", "v", None, 3), ("end",), ("ask", "a", "whole 0 9", None, 1), ("warn", "w", None, 2)]
        self.check_pages(pages, {("a", ""): 4}, [("pass", "v", ""), ("warn", "w", ""), ("ask", "a", "", 4), ("end",)])

    def test_compare(self):
        for how, passing in (("<", (0, 1)), ("=", (2,)), (">", (3, 4))):
            pages = [("ask", "a", "whole 0 4", None, 1), ("compare", "a", False, how, 2, 2, 3), ("held", "yes", None),
                     ("held", "no", None)]
            for rank in range(5):
                self.check_pages(pages, {("a", ""): rank},
                                 [("ask", "a", "", rank), ("held", "yes" if rank in passing else "no", "")])
            # To no where it wasn't asked, whatever the book has.
            self.check_pages(pages[1:2] + pages[1:], {("a", ""): 2}, [("held", "no", "")])

    def test_total(self):
        pages = [("ask", "a", "whole -9 9", None, 1), ("total", [(3, "a"), (-2, "b")], 4, ">", 9, 2, 3),
                 ("held", "yes", None), ("held", "no", None)]
        for rank in (-9, 1, 2, 9):
            self.check_pages(pages, {("a", ""): rank, ("b", ""): -9},
                             [("ask", "a", "", rank), ("held", "yes" if rank > 1 else "no", "")])
        self.check_pages([("total", [], 4, "=", 4, 1, 2), ("held", "yes", None), ("held", "no", None)], {}, [("held", "yes", "")])

    def test_things(self):
        pages = [("ask", "kids", "names 3", None, 1), ("first", "kids", 2), ("more", "kids", 3, 5),
                 ("ask", "a", "whole 0 9", "kids", 4), ("on", 2), ("first", "kids", 6), ("more", "kids", 7, 10),
                 ("compare", "a", True, ">", 4, 8, 9), ("pass", "c", "kids", 9), ("on", 6),
                 ("total", [(2, "a")], -1, "=", 25, 11, 12), ("end",), ("held", "d", None)]
        book = {("kids", ""): ("zoe", "bob", "al"), ("a", "zoe"): 6, ("a", "bob"): 2, ("a", "al"): 5}
        log = [("ask", "kids", "", ("zoe", "bob", "al")), ("ask", "a", "zoe", 6), ("ask", "a", "bob", 2), ("ask", "a", "al", 5),
               ("pass", "c", "zoe"), ("pass", "c", "al")]
        self.check_pages(pages, book, log + [("end",)])
        book["a", "bob"] = 3
        self.check_pages(pages, book, log[:2] + [("ask", "a", "bob", 3)] + log[3:] + [("held", "d", "")])
        self.check_pages(pages, {("kids", ""): ()}, [("ask", "kids", "", ()), ("held", "d", "")])

    def test_first_and_more_of_what_wasnt_asked(self):
        pages = [("first", "kids", 1), ("more", "kids", 2, 3), ("held", "yes", "kids"), ("end",)]
        self.check_pages(pages, {("kids", ""): ("zoe",)}, [("end",)])

    def test_without_each_it_is_without_a_thing(self):
        pages = [("ask", "kids", "names 3", None, 1), ("first", "kids", 2), ("more", "kids", 3, 4), ("warn", "c", None, 4),
                 ("ask", "a", "yesno", None, 5), ("warn", "d", "kids", 6), ("held", "h", "kids")]
        self.check_pages(pages, {("kids", ""): ("zoe",), ("a", ""): True, ("a", "zoe"): False},
                         [("ask", "kids", "", ("zoe",)), ("warn", "c", ""), ("ask", "a", "", True), ("warn", "d", "zoe"),
                          ("held", "h", "zoe")])

    def test_own_and_not_own(self):
        pages = [("ask", "kids", "names 3", None, 1), ("ask", "a", "whole 0 9", None, 2), ("first", "kids", 3),
                 ("more", "kids", 4, 9), ("ask", "b", "whole 0 9", "kids", 5), ("compare", "a", False, "=", 3, 6, 7),
                 ("pass", "c", "kids", 7), ("compare", "b", True, "=", 4, 8, 9), ("pass", "d", "kids", 9), ("end",)]
        self.check_pages(pages, {("kids", ""): ("zoe",), ("a", ""): 3, ("a", "zoe"): 0, ("b", "zoe"): 4, ("b", ""): 0},
                         [("ask", "kids", "", ("zoe",)), ("ask", "a", "", 3), ("ask", "b", "zoe", 4), ("pass", "c", "zoe"),
                          ("pass", "d", "zoe"), ("end",)])


class ManyRunsTest(RunTest):
    def test_the_log_of_the_straight_going(self):
        rng = random.Random(88)
        ends = collections.Counter()
        for text in sound_texts(200, 89) + rich_texts(150, 90):
            paper, plain = read_paper(text), PlainPaper(text)
            pages = pages_of(paper)
            for holes in (0, 0, 0.05, 0.3, 1):
                book = made_book(rng, plain, holes)
                with self.subTest(text=text, book=book):
                    log = run(pages, book)
                    self.assertEqual(log, straight(paper, book))
                    self.assertEqual(log, plain.straight(book))
                    ends[log[-1][0]] += 1
            self.assertEqual(run(pages, {}), straight(paper, {}))
        self.assertTrue(min(ends[word] for word in ("open", "held", "end")) > 99, ends)

    def test_what_is_handed_in_stays_and_what_is_told_is_the_askers_own(self):
        rng = random.Random(91)
        for text in rich_texts(40, 92):
            pages, book = pages_of(read_paper(text)), made_book(rng, PlainPaper(text), 0.05)
            kept = copy.deepcopy((pages, book))
            told = run(pages, book)
            again = list(told)
            other = run(pages, book)
            other.append("nope")
            self.assertEqual(told, again)
            self.assertEqual(run(pages, book), again)
            self.assertEqual((pages, book), kept)
            pages.clear()
            book.clear()
            self.assertEqual(told, again)


if __name__ == "__main__":
    unittest.main()
