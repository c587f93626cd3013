import collections
import copy
import itertools
import random
import unittest

from askpaper.kinds import Whole
from askpaper.looks import put_together
from askpaper.pages import pages_of
from askpaper.papers import Ask, Paper, Sheet
from askpaper.reading import read_paper
from askpaper.sayings import Compare
from making import made_book, rich_texts, sound_texts
from plain import ATOM, PlainPaper, plain_run, rank_of
from things import paper_of, paper_tree

FIELDS = {
    "ask": "question kind each next", "compare": "question own how number yes no", "total": "terms plus how number yes no",
    "first": "question next", "more": "question yes no", "on": "next", "pass": "check each next", "warn": "check each next",
    "held": "check each", "end": "",
}
LEADS = ("next", "yes", "no")
KINDS = {"each": (str, type(None)), "own": (bool,), "number": (int,), "plus": (int,), "terms": (list,),
         "next": (int,), "yes": (int,), "no": (int,)}


def fields_of(page):
    names = FIELDS[page[0]].split()
    assert len(names) == len(page) - 1, page
    return dict(zip(names, page[1:]))


def leads_of(page):
    return [number for name, number in fields_of(page).items() if name in LEADS]


def come_to_from_0(pages):
    """The numbers of all pages that are come to, in an order that hangs on what they say alone."""
    found, waiting = [], [0]
    while waiting:
        number = waiting.pop(0)
        if number not in found:
            found.append(number)
            waiting = leads_of(pages[number]) + waiting
    return found


def in_order(pages):
    """The same pages in another order, which doesn't hang on the one in which they stand."""
    found = come_to_from_0(pages)
    told = []
    for number in found:
        page = pages[number]
        behind = len(leads_of(page))
        told.append(page[:len(page) - behind] + tuple(found.index(lead) for lead in leads_of(page)))
    return told


class PagesTest(unittest.TestCase):
    def check_pages(self, rows, told):
        with self.subTest(rows=rows):
            pages = pages_of(paper_of(*rows))
            self.assertEqual(in_order(pages), told)
            self.assertEqual(len(pages), len(told))
            self.check_form(pages)

    def check_form(self, pages):
        self.assertIs(type(pages), list)
        for page in pages:
            self.assertIs(type(page), tuple)
            for name, part in fields_of(page).items():
                self.assertIn(type(part), KINDS.get(name, (str,)))
            for number in leads_of(page):
                self.assertIn(number, range(len(pages)))
        self.assertEqual(sorted(come_to_from_0(pages)), list(range(len(pages))))


class EachPageTest(PagesTest):
    def test_without_rows(self):
        self.check_pages(("sheet one",), [("end",)])
        self.check_pages(("sheet one", "sheet two", "way four", "sheet three", "sheet four", "sum t 3"), [("end",)])

    def test_questions(self):
        self.check_pages(("sheet one", "ask a whole -3 9", "ask b money 0.00 2.50", "sheet two", "ask c pick red blue",
                          "ask d names 2", "ask e yesno"), [
            ("ask", "a", "whole -3 9", None, 1),
            ("ask", "b", "money 0.00 2.50", None, 2),
            ("ask", "c", "pick red blue", None, 3),
            ("ask", "d", "names 2", None, 4),
            ("ask", "e", "yesno", None, 5),
            ("end",),
        ])

    def test_a_question_with_a_saying(self):
        self.check_pages(("sheet one", "ask a whole 0 9", "ask b yesno when a > 4"), [
            ("ask", "a", "whole 0 9", None, 1),
            ("compare", "a", False, ">", 4, 2, 3),
            ("ask", "b", "yesno", None, 3),
            ("end",),
        ])

    def test_checks(self):
        self.check_pages(("sheet one", "ask a whole 0 9", "warn v unless a < 4", "refuse w unless a = 2"), [
            ("ask", "a", "whole 0 9", None, 1),
            ("compare", "a", False, "<", 4, 2, 7),
            ("pass", "v", None, 3),
            ("compare", "a", False, "=", 2, 4, 6),
            ("pass", "w", None, 5),
            ("end",),
            ("held", "w", None),
            ("warn", "v", None, 3),
        ])

    def test_an_atom_is_compared_by_its_words_rank(self):
        for kind, word, rank in (("yesno", "yes", 1), ("yesno", "no", 0), ("pick v w x", "v", 0), ("pick v w x", "x", 2)):
            self.check_pages(("sheet one", f"ask a {kind}", f"ask b yesno when a is {word}"), [
                ("ask", "a", kind, None, 1),
                ("compare", "a", False, "=", rank, 2, 3),
                ("ask", "b", "yesno", None, 3),
                ("end",),
            ])

    def check_saying(self, saying, *told):
        """The pages of a saying behind the question a; page 2 or what follows its pages first is where it holds."""
        rows = ("sheet one", "ask a whole 0 9", f"ask b yesno when {saying}")
        ask, end = ("ask", "a", "whole 0 9", None, 1), ("end",)
        self.check_pages(rows, [ask if page == "a" else end if page == "end" else page for page in told])

    def test_not(self):
        self.check_saying("not a > 4", "a", ("compare", "a", False, ">", 4, 2, 3), "end", ("ask", "b", "yesno", None, 2))
        self.check_saying("not not a > 4", "a", ("compare", "a", False, ">", 4, 2, 3), ("ask", "b", "yesno", None, 3), "end")

    def test_and_or(self):
        self.check_saying("( a > 4 and a < 8 )", "a", ("compare", "a", False, ">", 4, 2, 4),
                          ("compare", "a", False, "<", 8, 3, 4), ("ask", "b", "yesno", None, 4), "end")
        self.check_saying("( a < 4 or a > 8 )", "a", ("compare", "a", False, "<", 4, 2, 4),
                          ("ask", "b", "yesno", None, 3), "end", ("compare", "a", False, ">", 8, 2, 3))

    def test_not_and_or_within_one_another(self):
        self.check_saying("not ( a < 4 or not ( a > 8 and a = 9 ) )", "a", ("compare", "a", False, "<", 4, 2, 3), "end",
                          ("compare", "a", False, ">", 8, 4, 2), ("compare", "a", False, "=", 9, 5, 2),
                          ("ask", "b", "yesno", None, 2))

    def test_ways(self):
        self.check_pages(("sheet one", "ask a whole 0 9", "way three when a < 3", "way end when a > 6", "sheet two",
                          "ask b yesno", "sheet three", "ask c yesno"), [
            ("ask", "a", "whole 0 9", None, 1),
            ("compare", "a", False, "<", 3, 2, 4),
            ("ask", "c", "yesno", None, 3),
            ("end",),
            ("compare", "a", False, ">", 6, 3, 5),
            ("ask", "b", "yesno", None, 2),
        ])

    def test_what_nothing_leads_to_doesnt_stand(self):
        self.check_pages(("sheet one", "ask a yesno", "way three", "way two when a is yes", "way end", "sheet two",
                          "ask b yesno", "refuse r unless b is yes", "sheet three", "ask c yesno", "way end",
                          "sheet four", "ask d yesno"), [
            ("ask", "a", "yesno", None, 1),
            ("ask", "c", "yesno", None, 2),
            ("end",),
        ])
        self.check_pages(("sheet one", "way three", "sheet two", "ask a yesno", "sheet three", "ask b yesno"), [
            ("ask", "b", "yesno", None, 1),
            ("end",),
        ])

    def test_sums(self):
        self.check_pages(("sheet one", "ask a whole 0 9", "ask b whole 0 9", "ask c whole 0 9", "warn v unless t < 3",
                          "warn w unless u > -2", "warn x unless s = 4", "sum t 2 c - u + b + 4", "sum u b - a + 7", "sum s 3"), [
            ("ask", "a", "whole 0 9", None, 1),
            ("ask", "b", "whole 0 9", None, 2),
            ("ask", "c", "whole 0 9", None, 3),
            ("total", [(2, "c"), (1, "a")], -3, "<", 3, 4, 12),
            ("pass", "v", None, 5),
            ("total", [(1, "b"), (-1, "a")], 7, ">", -2, 6, 11),
            ("pass", "w", None, 7),
            ("total", [], 3, "=", 4, 8, 10),
            ("pass", "x", None, 9),
            ("end",),
            ("warn", "x", None, 9),
            ("warn", "w", None, 7),
            ("warn", "v", None, 5),
        ])

    def test_page_0_may_be_that_of_an_atom(self):
        self.check_pages(("sheet one", "refuse r unless t > 2", "sum t 3"), [
            ("total", [], 3, ">", 2, 1, 3),
            ("pass", "r", None, 2),
            ("end",),
            ("held", "r", None),
        ])


class ThingsTest(PagesTest):
    def test_a_sheet_that_comes_again(self):
        self.check_pages(("sheet one", "ask kids names 2", "sheet two each kids", "ask a whole 0 9", "ask b yesno when a > 4",
                          "refuse r unless not b is yes", "sheet three", "ask c yesno"), [
            ("ask", "kids", "names 2", None, 1),
            ("first", "kids", 2),
            ("more", "kids", 3, 10),
            ("ask", "a", "whole 0 9", "kids", 4),
            ("compare", "a", True, ">", 4, 5, 6),
            ("ask", "b", "yesno", "kids", 6),
            ("compare", "b", True, "=", 1, 7, 8),
            ("held", "r", "kids"),
            ("pass", "r", "kids", 9),
            ("on", 2),
            ("ask", "c", "yesno", None, 11),
            ("end",),
        ])

    def test_questions_of_other_sheets_are_without_a_thing(self):
        self.check_pages(("sheet one", "ask kids names 2", "sheet two each kids", "warn w unless kids > 1"), [
            ("ask", "kids", "names 2", None, 1),
            ("first", "kids", 2),
            ("more", "kids", 3, 7),
            ("compare", "kids", False, ">", 1, 4, 6),
            ("pass", "w", "kids", 5),
            ("on", 2),
            ("warn", "w", "kids", 5),
            ("end",),
        ])

    def test_ways_are_tried_behind_all_things(self):
        self.check_pages(("sheet one", "ask kids names 2", "sheet two each kids", "ask a whole 0 9", "way end when t > 9",
                          "sheet three", "ask b yesno", "sum t a"), [
            ("ask", "kids", "names 2", None, 1),
            ("first", "kids", 2),
            ("more", "kids", 3, 5),
            ("ask", "a", "whole 0 9", "kids", 4),
            ("on", 2),
            ("total", [(1, "a")], 0, ">", 9, 6, 7),
            ("end",),
            ("ask", "b", "yesno", None, 6),
        ])

    def test_two_sheets_that_come_again_by_the_same_question(self):
        self.check_pages(("sheet one", "ask kids names 2", "sheet two each kids", "ask a yesno", "sheet three each kids",
                          "ask b yesno"), [
            ("ask", "kids", "names 2", None, 1),
            ("first", "kids", 2),
            ("more", "kids", 3, 5),
            ("ask", "a", "yesno", "kids", 4),
            ("on", 2),
            ("first", "kids", 6),
            ("more", "kids", 7, 9),
            ("ask", "b", "yesno", "kids", 8),
            ("on", 6),
            ("end",),
        ])

    def test_without_rows_nothing_is_needed_for_its_things(self):
        self.check_pages(("sheet one", "ask kids names 2", "sheet two each kids", "way end when kids = 0", "sheet three",
                          "ask a yesno"), [
            ("ask", "kids", "names 2", None, 1),
            ("compare", "kids", False, "=", 0, 2, 3),
            ("end",),
            ("ask", "a", "yesno", None, 2),
        ])


def sheets_come_to(plain):
    """The sheets to which ways lead, or which follow, whatever holds."""
    names = [sheet.name for sheet in plain.sheets]
    found, waiting = set(), [0]
    while waiting:
        place = waiting.pop()
        if place == len(names) or place in found:
            continue
        found.add(place)
        follows = True
        for word, name, _, saying in plain.sheets[place].lines:
            if word == "way" and follows:
                waiting.append(names.index(name) if name != "end" else len(names))
                follows = saying is not None
        if follows:
            waiting.append(place + 1)
    return [plain.sheets[place] for place in sorted(found)]


def atoms_needed(sheet):
    """The atoms of a sheet, but of ways behind one without a saying."""
    atoms = []
    for word, _, _, saying in sheet.lines:
        if word == "way" and saying is None:
            break
        atoms += ATOM.findall(saying or "")
    return atoms


class ManyPagesTest(PagesTest):
    def pages_needed(self, paper, plain):
        """All pages, without the numbers of others, that the rows, sayings and ways of a paper need."""
        needed = [("end",)]
        for sheet in sheets_come_to(plain):
            rows = [line for line in sheet.lines if line[0] != "way"]
            if sheet.each is not None and rows:
                needed += [("first", sheet.each), ("more", sheet.each), ("on",)]
            for word, name, kind, _ in rows:
                if word == "ask":
                    needed.append(("ask", name, kind.told(), sheet.each))
                else:
                    needed += [("pass", name, sheet.each), ("held" if word == "refuse" else "warn", name, sheet.each)]
            for name, how, what in atoms_needed(sheet):
                if how == "is":
                    how, what = "=", rank_of(plain.kinds[name], {"yes": True, "no": False}.get(what, what))
                if name in plain.kinds:
                    needed.append(("compare", name, plain.again(name), how, int(what)))
                else:
                    needed.append(("total", *plain.terms(name), how, int(what)))
        return needed

    def test_just_what_is_needed_stands_there(self):
        for text in sound_texts(200, 82) + rich_texts(150, 83):
            paper, plain = read_paper(text), PlainPaper(text)
            with self.subTest(text=text):
                pages = pages_of(paper)
                self.check_form(pages)
                bare = [page[:len(page) - len(leads_of(page))] for page in pages]
                self.assertEqual(collections.Counter(map(repr, bare)),
                                 collections.Counter(map(repr, self.pages_needed(paper, plain))))

    def test_a_run_as_the_document_tells_of_it_tells_the_log_of_the_straight_going(self):
        rng = random.Random(84)
        ends = collections.Counter()
        for text in sound_texts(200, 85) + rich_texts(150, 86):
            plain = PlainPaper(text)
            pages = pages_of(read_paper(text))
            for holes in (0, 0, 0.05, 0.3, 1):
                book = made_book(rng, plain, holes)
                with self.subTest(text=text, book=book):
                    log = plain_run(pages, book)
                    self.assertEqual(log, plain.straight(book))
                    ends[log[-1][0]] += 1
        self.assertTrue(min(ends[word] for word in ("open", "held", "end")) > 99, ends)

    def test_what_is_handed_in_stays_and_what_is_told_is_the_askers_own(self):
        for text in rich_texts(40, 87):
            paper = read_paper(text)
            kept = copy.deepcopy(paper_tree(paper))
            told = pages_of(paper)
            again = copy.deepcopy(told)
            self.assertEqual(paper_tree(paper), kept)
            other = pages_of(paper)
            lists = [page[1] for page in told + other if page[0] == "total"]
            self.assertEqual(len({id(part) for part in lists}), len(lists))
            for part in [page[1] for page in other if page[0] == "total"]:
                part.append("nope")
            other.clear()
            self.assertEqual(told, again)
            self.assertEqual(pages_of(paper), again)
            self.assertEqual(paper_tree(paper), kept)

    def test_terms_are_those_put_together_each_time_in_a_new_list(self):
        paper = paper_of("sheet one", "ask a whole 0 9", "warn v unless t > 3", "warn w unless t > 5", "sum t 2 a + 1")
        terms = [page[1] for page in pages_of(paper) if page[0] == "total"]
        self.assertEqual(terms, [put_together(paper, "t")[0]] * 2)
        terms[0].clear()
        self.assertEqual(terms[1], [(2, "a")])

    def test_many_rows_dont_go_deep(self):
        names = ["".join(letters) for letters in itertools.product("abcdefghijklm", repeat=3)]
        rows = [Ask(name, Whole(0, 9), Compare(names[0], ">", 4) if place else None) for place, name in enumerate(names)]
        pages = pages_of(Paper("p", [Sheet("one", None, rows, [])], []))
        self.assertEqual(len(pages), 2 * len(names))
        self.assertEqual(plain_run(pages, {(names[0], ""): 4}), [("ask", names[0], "", 4), ("end",)])


if __name__ == "__main__":
    unittest.main()
