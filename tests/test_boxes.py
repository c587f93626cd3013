import copy
import itertools
import random
import unittest

from askpaper.boxes import going_by
from askpaper.going import straight
from askpaper.looks import kinds_of
from askpaper.reading import read_paper
from making import made_box, rich_texts, sound_texts
from plain import PlainPaper
from things import paper_of, paper_tree

KIDS = ("sheet one", "ask kids names 3", "sheet two each kids", "ask age whole 0 9", "warn old unless age < 5",
        "sheet three", "ask done yesno")


class BoxesTest(unittest.TestCase):
    def check_going(self, rows, box, told):
        with self.subTest(rows=rows, box=box):
            answer = going_by(paper_of(*rows), box)
            self.assertEqual(answer, told)
            self.assertEqual([type(part) for part in answer[:3]], [bool, list, list])

    def check_sure(self, rows, box, log, doubles=()):
        self.check_going(rows, box, (True, log, list(doubles), None))

    def check_unsure(self, rows, box, log, split, doubles=()):
        self.check_going(rows, box, (False, log, list(doubles), split))

    def check_split(self, rows, box, split):
        with self.subTest(rows=rows, box=box):
            self.assertEqual(going_by(paper_of(*rows), box)[3], split)


class LogTest(BoxesTest):
    def test_without_sayings(self):
        rows = ("sheet one", "ask a whole 0 9", "ask b yesno", "sheet two", "ask c pick red green")
        self.check_sure(rows, {}, [("ask", "a", 0), ("ask", "b", 0), ("ask", "c", 0), ("end",)])

    def test_without_questions(self):
        self.check_sure(("sheet one",), {}, [("end",)])
        self.check_sure(("sheet one", "warn w unless t > 3", "refuse r unless t > 3", "sum t 3"), {},
                        [("warn", "w", 0), ("held", "r", 0)])

    def test_by_the_kinds_own_ranges(self):
        rows = ("sheet one", "ask a whole 3 9", "ask b names 2", "warn v unless a > 2", "warn w unless b > 2",
                "refuse x unless a < 10", "ask c yesno when a = 10", "refuse y unless b < 0", "ask d yesno")
        self.check_sure(rows, {}, [("ask", "a", 0), ("ask", "b", 0), ("pass", "v", 0), ("warn", "w", 0), ("pass", "x", 0),
                                   ("held", "y", 0)])

    def test_by_the_ranges_of_the_box(self):
        rows = ("sheet one", "ask a whole 0 9", "ask b yesno when a > 4", "warn w unless b is yes")
        self.check_sure(rows, {("a", 0): (5, 9), ("b", 0): (1, 1)},
                        [("ask", "a", 0), ("ask", "b", 0), ("pass", "w", 0), ("end",)])
        self.check_sure(rows, {("a", 0): (0, 4)}, [("ask", "a", 0), ("warn", "w", 0), ("end",)])
        self.check_unsure(rows, {("a", 0): (4, 5)}, [("ask", "a", 0)], ("a", 0, 4))
        self.check_unsure(rows, {("a", 0): (5, 5)}, [("ask", "a", 0), ("ask", "b", 0)], ("b", 0, 0))

    def test_keys_that_arent_asked_count_nothing(self):
        rows = ("sheet one", "ask a whole 0 9", "warn w unless a > 4")
        self.check_sure(rows, {("a", 0): (5, 9), ("a", 1): (0, 0), ("b", 0): (0, 0)},
                        [("ask", "a", 0), ("pass", "w", 0), ("end",)])

    def test_where_it_is_unsure_it_ends_with_what_came_ahead(self):
        ahead = ("sheet one", "ask a whole 0 9", "ask b yesno", "warn u unless a < 10")
        log = [("ask", "a", 0), ("ask", "b", 0), ("pass", "u", 0)]
        for row in ("ask c yesno when a > 4", "warn w unless a > 4", "refuse w unless a > 4", "way end when a > 4"):
            self.check_unsure((*ahead, row, "sheet two", "ask d yesno"), {}, log, ("a", 0, 4))

    def test_what_wasnt_asked_is_sure(self):
        rows = ("sheet one", "ask a whole 0 9", "ask b whole 0 9 when a > 9", "warn w unless b < 10",
                "warn x unless not b = 3", "warn y unless t = 0", "sum t b")
        self.check_sure(rows, {}, [("ask", "a", 0), ("warn", "w", 0), ("pass", "x", 0), ("pass", "y", 0), ("end",)])


class ThingsTest(BoxesTest):
    def test_as_often_as_the_range_tells(self):
        for often in range(4):
            box = {("kids", 0): (often, often), **{("age", k): (4 + k, 4 + k) for k in range(3)}}
            middle = [row for k in range(often) for row in (("ask", "age", k), ("warn" if k else "pass", "old", k))]
            self.check_sure(KIDS, box, [("ask", "kids", 0), *middle, ("ask", "done", 0), ("end",)])

    def test_until_then_it_is_unsure(self):
        self.check_unsure(KIDS, {}, [("ask", "kids", 0)], ("kids", 0, 0))
        self.check_unsure(KIDS, {("kids", 0): (1, 3)}, [("ask", "kids", 0)], ("kids", 0, 1))
        self.check_unsure(KIDS, {("kids", 0): (2, 3)}, [("ask", "kids", 0)], ("kids", 0, 2))

    def test_also_where_the_sheet_has_no_rows(self):
        rows = ("sheet one", "ask kids names 3", "sheet two each kids", "way end when kids > 9")
        self.check_unsure(rows, {}, [("ask", "kids", 0)], ("kids", 0, 0))

    def test_not_at_all_where_the_question_wasnt_asked(self):
        rows = ("sheet one", "ask a yesno", "ask kids names 3 when a is yes", "sheet two each kids", "ask b yesno",
                "way four when a is no", "sheet three", "ask c yesno", "sheet four", "ask d yesno")
        self.check_sure(rows, {("a", 0): (0, 0), ("kids", 0): (1, 3)}, [("ask", "a", 0), ("ask", "d", 0), ("end",)])

    def test_each_place_has_its_own_range(self):
        box = {("kids", 0): (2, 2), ("age", 0): (0, 3)}
        log = [("ask", "kids", 0), ("ask", "age", 0), ("pass", "old", 0), ("ask", "age", 1)]
        self.check_unsure(KIDS, box, log, ("age", 1, 4))

    def test_held_for_a_thing(self):
        rows = tuple(row.replace("warn", "refuse") for row in KIDS)
        self.check_sure(rows, {("kids", 0): (3, 3), ("age", 0): (0, 0), ("age", 1): (5, 9)},
                        [("ask", "kids", 0), ("ask", "age", 0), ("pass", "old", 0), ("ask", "age", 1), ("held", "old", 1)])

    def test_a_question_of_another_sheet_is_that_of_place_0(self):
        rows = ("sheet one", "ask kids names 2", "ask a whole 0 9", "sheet two each kids", "ask b yesno when a > 4")
        self.check_sure(rows, {("kids", 0): (2, 2), ("a", 0): (5, 6), ("a", 1): (0, 0)},
                        [("ask", "kids", 0), ("ask", "a", 0), ("ask", "b", 0), ("ask", "b", 1), ("end",)])
        self.check_split(rows, {("kids", 0): (2, 2)}, ("a", 0, 4))


class DoublesTest(BoxesTest):
    ROWS = ("sheet one", "ask a whole 0 9", "way three when a < 6", "way end when a > 3", "way three when a = 9",
            "sheet two", "way end", "way end", "sheet three", "way end", "way end when a > 9")

    def test_sheets_at_which_two_ways_hold(self):
        end = [("ask", "a", 0), ("end",)]
        self.check_sure(self.ROWS, {("a", 0): (4, 5)}, end, ["one"])
        self.check_sure(self.ROWS, {("a", 0): (0, 3)}, end)
        self.check_sure(self.ROWS, {("a", 0): (6, 8)}, end)
        self.check_sure(self.ROWS, {("a", 0): (9, 9)}, end, ["one"])
        rows = tuple(row.replace("a > 9", "a < 10") for row in self.ROWS)
        self.check_sure(rows, {("a", 0): (4, 5)}, end, ["one", "three"])

    def test_wherever_they_lead(self):
        rows = ("sheet one", "way two", "way two", "way two", "sheet two", "way end", "sheet three", "way end", "way end")
        self.check_sure(rows, {}, [("end",)], ["one"])

    def test_none_holds(self):
        rows = ("sheet one", "ask a yesno", "way end when t > 3", "way three when t > 4", "sheet two", "ask b yesno",
                "sheet three", "sum t 3")
        self.check_sure(rows, {}, [("ask", "a", 0), ("ask", "b", 0), ("end",)])

    def test_all_sayings_are_looked_at_also_behind_one_that_holds(self):
        rows = ("sheet one", "ask a whole 0 9", "way two", "way end when a > 9", "way end when a > 5", "sheet two")
        self.check_unsure(rows, {}, [("ask", "a", 0)], ("a", 0, 5))
        rows = ("sheet one", "ask a whole 0 9", "way two when a > 3", "way end", "way end when a > 5", "sheet two")
        self.check_unsure(rows, {}, [("ask", "a", 0)], ("a", 0, 3))

    def test_not_where_the_going_is_unsure_at_the_ways(self):
        rows = ("sheet one", "way two", "way two", "sheet two", "ask a whole 0 9", "way three", "way end",
                "way end when a > 5", "sheet three")
        self.check_unsure(rows, {}, [("ask", "a", 0)], ("a", 0, 5), ["one"])

    def test_not_where_it_is_held_ahead(self):
        rows = ("sheet one", "refuse r unless t > 3", "way end", "way end", "sum t 3")
        self.check_sure(rows, {}, [("held", "r", 0)])

    def test_of_a_sheet_that_comes_again(self):
        rows = ("sheet one", "ask kids names 2", "sheet two each kids", "ask a whole 0 9", "way end when t > 3",
                "way end when t > 5", "sheet three", "ask b yesno", "sum t a")
        self.check_sure(rows, {("kids", 0): (0, 0)}, [("ask", "kids", 0), ("ask", "b", 0), ("end",)])
        self.check_sure(rows, {("kids", 0): (2, 2), ("a", 0): (3, 9), ("a", 1): (3, 9)},
                        [("ask", "kids", 0), ("ask", "a", 0), ("ask", "a", 1), ("end",)], ["two"])


class CutsTest(BoxesTest):
    def check_cuts(self, kind, saying, cuts):
        """Cuts are told by ranges; None where the saying is sure."""
        for span, cut in cuts.items():
            for row in ("warn w unless {}", "warn w unless not {}", "ask b yesno when {}", "way end when {}"):
                rows = ("sheet one", f"ask a {kind}", row.format(saying))
                self.check_split(rows, {("a", 0): span}, None if cut is None else ("a", 0, cut))

    def test_less(self):
        self.check_cuts("whole 0 9", "a < 5", {(0, 9): 4, (4, 5): 4, (0, 5): 4, (4, 9): 4, (0, 4): None, (5, 9): None})

    def test_greater(self):
        self.check_cuts("whole 0 9", "a > 5", {(0, 9): 5, (5, 6): 5, (0, 6): 5, (5, 9): 5, (0, 5): None, (6, 9): None})

    def test_equal(self):
        self.check_cuts("whole 0 9", "a = 5", {(0, 9): 4, (4, 5): 4, (0, 5): 4, (5, 6): 5, (5, 9): 5, (4, 6): 4,
                                               (5, 5): None, (0, 4): None, (6, 9): None})

    def test_is(self):
        self.check_cuts("yesno", "a is yes", {(0, 1): 0, (0, 0): None, (1, 1): None})
        self.check_cuts("yesno", "a is no", {(0, 1): 0, (0, 0): None, (1, 1): None})
        self.check_cuts("pick v w x y z", "a is x", {(0, 4): 1, (1, 2): 1, (2, 3): 2, (2, 4): 2, (2, 2): None,
                                                    (0, 1): None, (3, 4): None})
        self.check_cuts("pick v w x y z", "a is v", {(0, 4): 0, (0, 1): 0, (0, 0): None, (1, 4): None})
        self.check_cuts("pick v w x y z", "a is z", {(0, 4): 3, (3, 4): 3, (4, 4): None, (0, 3): None})

    def test_of_money_and_of_names(self):
        self.check_cuts("money -9.00 9.00", "a < -50", {(-900, 900): -51, (-51, -50): -51, (-50, 900): None})
        self.check_cuts("money -9.00 9.00", "a = -50", {(-900, 900): -51, (-50, -49): -50})
        self.check_cuts("names 3", "a > 1", {(0, 3): 1, (1, 2): 1, (2, 3): None})

    def test_the_kinds_own_range(self):
        rows = ("sheet one", "ask a whole 5 9", "warn w unless a = 5")
        self.check_split(rows, {}, ("a", 0, 5))
        self.check_split(rows, {("a", 1): (5, 5)}, ("a", 0, 5))

    def test_the_first_open_atom(self):
        rows = ("sheet one", "ask a whole 0 9", "ask b whole 0 9", "ask c whole 0 9",
                "warn w unless ( ( a > 3 and c < 5 ) or ( b > 2 and a > 7 ) )")
        self.check_split(rows, {}, ("a", 0, 3))
        self.check_split(rows, {("a", 0): (4, 9)}, ("c", 0, 4))
        self.check_split(rows, {("a", 0): (4, 9), ("c", 0): (5, 9)}, ("b", 0, 2))
        self.check_split(rows, {("a", 0): (4, 9), ("c", 0): (5, 9), ("b", 0): (3, 9)}, ("a", 0, 7))
        self.check_split(rows, {("a", 0): (4, 9), ("c", 0): (0, 4)}, None)
        # Its first part is sure not to hold, and yet its second atom is the first open one.
        self.check_split(rows, {("a", 0): (0, 3)}, None)
        self.check_split(rows[:4] + ("warn w unless ( ( a > 3 and c < 5 ) or b > 2 )",), {("a", 0): (0, 3)}, ("c", 0, 4))

    def test_of_the_same_thing(self):
        rows = ("sheet one", "ask kids names 3", "sheet two each kids", "ask a whole 0 9", "ask b yesno when a > 4")
        box = {("kids", 0): (3, 3)}
        for k in range(3):
            self.check_split(rows, box, ("a", k, 4))
            box["a", k] = (k, 4)
        self.check_split(rows, box, None)


class SumSpansTest(BoxesTest):
    ROWS = ("sheet one", "ask a whole -3 4", "ask b whole 1 6", "ask c yesno when a > 4", "warn w unless {}",
            "sum t 2 a - 3 b + 5 c + 7", "sum s t + 3 b - 2 u", "sum u a")

    def check_span(self, box, low, high, name="t"):
        """That a sum's least and greatest worth are just these."""
        for saying, word in ((f"{name} > {low - 1}", "pass"), (f"{name} < {high + 1}", "pass"), (f"{name} < {low}", "warn"),
                             (f"{name} > {high}", "warn"), (f"{name} = {low - 1}", "warn"), (f"{name} = {high + 1}", "warn")):
            rows = [row.format(saying) for row in self.ROWS]
            self.check_sure(rows, box, [("ask", "a", 0), ("ask", "b", 0), (word, "w", 0), ("end",)])
        for saying in (f"{name} > {low}", f"{name} < {high}", f"{name} = {low}", f"{name} = {high}"):
            rows = [row.format(saying) for row in self.ROWS]
            sure, log = going_by(paper_of(*rows), box)[:2]
            self.assertEqual((sure, len(log)), (False, 2) if low < high else (True, 4))

    def test_least_and_greatest_with_times_below_0(self):
        self.check_span({}, -6 - 18 + 7, 8 - 3 + 7)
        self.check_span({("a", 0): (1, 2), ("b", 0): (4, 4)}, 2 - 12 + 7, 4 - 12 + 7)
        self.check_span({("a", 0): (-1, -1), ("b", 0): (2, 2)}, -1, -1)

    def test_by_the_terms_put_together(self):
        # 2 a - 3 b + 5 c + 7 + 3 b - 2 a: what comes to 0 ranges no more.
        self.check_span({}, 7, 7, "s")

    def test_of_all_things_each_ranging_for_itself(self):
        rows = ("sheet one", "ask kids names 3", "sheet two each kids", "ask a whole 0 3", "ask b whole 0 3 when a > 1",
                "sheet three", "warn w unless t > {}", "sum t 2 a - b - kids")
        box = {("kids", 0): (2, 2), ("a", 0): (1, 1), ("a", 1): (2, 3), ("b", 1): (1, 3)}
        log = [("ask", "kids", 0), ("ask", "a", 0), ("ask", "a", 1), ("ask", "b", 1)]
        # From 2 + 4 - 3 - 2 to 2 + 6 - 1 - 2.
        for number, word in ((0, "pass"), (5, "warn")):
            self.check_sure([row.format(number) for row in rows], box, log + [(word, "w", 0), ("end",)])
        for number in (1, 4):
            self.check_unsure([row.format(number) for row in rows], box, log, ("a", 1, 2))


class SumCutsTest(BoxesTest):
    def test_in_the_middle_of_the_first_range_of_its_terms(self):
        # The terms are c, a, in this order: b comes to 0.
        rows = ("sheet one", "ask a whole -4 3", "ask b whole 0 9", "ask c whole 0 9", "warn w unless t = 1",
                "sum t 2 c - v + a + b", "sum v b")
        self.check_split(rows, {}, ("c", 0, 4))
        self.check_split(rows, {("c", 0): (2, 2)}, ("a", 0, -1))
        self.check_split(rows, {("c", 0): (0, 0), ("a", 0): (-4, 1)}, ("a", 0, -2))
        self.check_split(rows, {("c", 0): (0, 0), ("a", 0): (-4, 2)}, ("a", 0, -1))
        self.check_split(rows, {("c", 0): (0, 0), ("a", 0): (1, 1)}, None)
        self.check_split(rows, {("c", 0): (3, 3)}, None)

    def test_the_cut_is_the_greatest_number_not_above_the_half(self):
        rows = ("sheet one", "ask a whole -9 9", "warn w unless t > {}", "sum t a")
        for low, high in itertools.combinations(range(-9, 10), 2):
            # Of all cuts below high, the greatest one whose double isn't above both together.
            cut = max(number for number in range(-9, 10) if 2 * number <= low + high)
            told = going_by(paper_of(*[row.format(low) for row in rows]), {("a", 0): (low, high)})
            self.assertEqual(told, (False, [("ask", "a", 0)], [], ("a", 0, cut)))

    def test_what_wasnt_asked_is_passed_over(self):
        rows = ("sheet one", "ask a whole 0 9", "ask b whole 0 9 when a > 9", "warn w unless t > 4", "sum t b + a")
        self.check_split(rows, {}, ("a", 0, 4))

    def test_the_first_place(self):
        rows = ("sheet one", "ask kids names 3", "ask c whole 0 8", "sheet two each kids", "ask go yesno",
                "ask a whole 0 9 when go is yes", "sheet three", "warn w unless t > 9", "sum t a + c + kids")
        box = {("kids", 0): (3, 3), ("go", 0): (0, 0), ("go", 1): (1, 1), ("go", 2): (1, 1)}
        self.check_split(rows, box, ("a", 1, 4))
        box["a", 1] = (4, 4)
        self.check_split(rows, box, ("a", 2, 4))
        box["a", 2] = (0, 1)
        self.check_split(rows, box, ("a", 2, 0))
        box["a", 2] = (1, 1)
        self.check_split(rows, box, ("c", 0, 4))
        box["c", 0] = (1, 1)
        self.check_split(rows, box, None)

    def test_at_ways(self):
        rows = ("sheet one", "ask kids names 2", "sheet two each kids", "ask a whole 0 9", "way end when t > 12", "sum t a")
        self.check_split(rows, {("kids", 0): (2, 2)}, ("a", 0, 4))
        self.check_split(rows, {("kids", 0): (2, 2), ("a", 0): (9, 9)}, ("a", 1, 4))
        self.check_split(rows, {("kids", 0): (1, 1)}, None)


def book_in(rng, kinds, plain, box):
    """A book of answers in the ranges of a box; things are called by their places."""
    book = {}
    for name, kind in kinds.items():
        for k in range(3) if plain.again(name) else (0,):
            low, high = box.get((name, k), (kind.low, kind.high))
            book[name, "abc"[k] if plain.again(name) else ""] = kind.sample(rng.randint(low, high))
    return book


def placed(log):
    """The rows of a straight going with places in the stead of things, and without answers."""
    return [row if row == ("end",) else (row[0], row[1], "abc".find(row[2] or "a")) for row in log]


class ManyBoxesTest(BoxesTest):
    def test_many_papers_and_boxes(self):
        rng = random.Random(41)
        told = {}
        for text in sound_texts(250, 42) + rich_texts(150, 43):
            paper, plain = read_paper(text), PlainPaper(text)
            for wide in (0, 0.1, 0.3, 0.5, 0.8, 1):
                box = made_box(rng, plain, wide)
                with self.subTest(text=text, box=box):
                    answer = going_by(paper, box)
                    self.assertEqual(answer, plain.going_by(box))
                    told.setdefault((answer[0], len(answer[2]) > 0), []).append(len(answer[1]))
        self.assertEqual(len(told), 4)
        self.assertTrue(all(max(lengths) > 4 and len(lengths) > 19 for lengths in told.values()),
                        {key: (max(lengths), len(lengths)) for key, lengths in told.items()})

    def test_a_sure_going_is_that_of_each_book_in_the_box_and_an_unsure_one_begins_so(self):
        rng = random.Random(44)
        for text in rich_texts(120, 45):
            paper, plain, kinds = read_paper(text), PlainPaper(text), kinds_of(read_paper(text))
            for wide in (0.1, 0.3, 0.5):
                box = made_box(rng, plain, wide)
                sure, log, _, split = going_by(paper, box)
                for _ in range(5):
                    book = book_in(rng, kinds, plain, box)
                    with self.subTest(text=text, box=box, book=book):
                        other = placed(straight(paper, book))
                        self.assertEqual(log, other if sure else other[:len(log)])

    def test_a_split_parts_a_range_that_was_asked(self):
        rng = random.Random(46)
        for text in rich_texts(150, 47):
            paper, plain, kinds = read_paper(text), PlainPaper(text), kinds_of(read_paper(text))
            box = made_box(rng, plain, 0.7)
            sure, log, _, split = going_by(paper, box)
            self.assertEqual(sure, split is None)
            # Split over and over, each time into one of the halves, it is sure at last.
            while split is not None:
                with self.subTest(text=text, box=box):
                    question, k, cut = split
                    low, high = box.get((question, k), (kinds[question].low, kinds[question].high))
                    self.assertIn(("ask", question, k), log)
                    self.assertTrue(low <= cut < high)
                    box[question, k] = rng.choice(((low, cut), (cut + 1, high)))
                sure, log, _, split = going_by(paper, box)
            self.assertIn(log[-1][0], ("end", "held"))

    def test_by_ranges_of_one_rank_it_is_the_straight_going(self):
        rng = random.Random(48)
        for text in sound_texts(150, 49):
            paper, plain, kinds = read_paper(text), PlainPaper(text), kinds_of(read_paper(text))
            box = made_box(rng, plain, 0)
            sure, log, _, _ = going_by(paper, box)
            self.assertTrue(sure)
            self.assertEqual(log, placed(straight(paper, book_in(rng, kinds, plain, box))))

    def test_what_is_handed_in_stays_and_what_is_told_is_the_askers_own(self):
        rng = random.Random(50)
        for text in rich_texts(40, 51):
            paper, plain = read_paper(text), PlainPaper(text)
            box = made_box(rng, plain, 0.4)
            kept = copy.deepcopy((paper_tree(paper), box))
            told = going_by(paper, box)
            again = copy.deepcopy(told)
            self.assertEqual((paper_tree(paper), box), kept)
            told[1].clear()
            told[2].append("nope")
            self.assertEqual(going_by(paper, box), again)


if __name__ == "__main__":
    unittest.main()
