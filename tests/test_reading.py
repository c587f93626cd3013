import copy
import unittest

from askpaper.errors import NoRow
from askpaper.kinds import Money, Names, Pick, Whole, YesNo
from askpaper.papers import Ask, Check, Paper, Sheet
from askpaper.reading import read_paper, shown_paper
from askpaper.sayings import Both, Compare, Either, Is, Not
from things import NO_NAMES, NO_TEXTS, nested, paper_tree

TEXT = """paper household
sheet home
ask well yesno
ask age whole 0 120
ask kids names 3 when ( well is yes and age > 17 )
ask cost money 0.00 12.05 when not well is no
refuse adult unless age > 15
warn dear unless ( cost < 350 or well is yes )
way last when kids = 0
way end when age < 2
way bare
sheet child each kids
ask hue pick red green blue
warn pale unless hue is red
sheet bare
sheet last
way end
sum total - 2 kids + age + 10 - 3
sum more total"""

PAPER = Paper("household", [
    Sheet("home", None, [
        Ask("well", YesNo()),
        Ask("age", Whole(0, 120)),
        Ask("kids", Names(3), Both(Is("well", "yes"), Compare("age", ">", 17))),
        Ask("cost", Money(0, 1205), Not(Is("well", "no"))),
        Check("adult", Compare("age", ">", 15)),
        Check("dear", Either(Compare("cost", "<", 350), Is("well", "yes")), False),
    ], [("last", Compare("kids", "=", 0)), ("end", Compare("age", "<", 2)), ("bare", None)]),
    Sheet("child", "kids", [
        Ask("hue", Pick(["red", "green", "blue"])),
        Check("pale", Is("hue", "red"), False),
    ], []),
    Sheet("bare", None, [], []),
    Sheet("last", None, [], [("end", None)]),
], [("total", [(-2, "kids"), (1, "age"), (10, None), (-3, None)]), ("more", [(1, "total")])])

LEAST = Paper("a", [Sheet("b", None, [], [])], [])


def numbered(count):
    """So many texts of atoms, unlike each other."""
    return [f"a < {place}" for place in range(count)]


class ReadingTest(unittest.TestCase):
    def check_refused(self, thing, row):
        with self.subTest(thing=thing):
            with self.assertRaises(NoRow) as caught:
                read_paper(thing)
            self.assertIs(type(caught.exception.row), int)
            self.assertEqual(caught.exception.row, row)

    def check_rows_refused(self, rows, row):
        self.check_refused("\n".join(rows), row)

    def check_read(self, rows):
        text = "\n".join(rows)
        with self.subTest(text=text):
            paper = read_paper(text)
            self.assertEqual(shown_paper(paper), text)
            return paper


class ShownAndReadTest(ReadingTest):
    def test_a_paper_is_written(self):
        self.assertEqual(shown_paper(PAPER), TEXT)
        self.assertEqual(shown_paper(LEAST), "paper a\nsheet b")

    def test_a_paper_is_read(self):
        for paper in (PAPER, LEAST):
            got = read_paper(shown_paper(paper))
            self.assertIs(type(got), Paper)
            self.assertEqual(paper_tree(got), paper_tree(paper))
            self.assertEqual(shown_paper(got), shown_paper(paper))
            for sheet in got.sheets:
                self.assertIs(type(sheet), Sheet)

    def test_each_kind_of_row(self):
        for row in ("ask a yesno", "ask a whole -3 -3", "ask a whole -1 " + "9" * 60, "ask a money -0.50 0.07",
                    "ask a pick b c", "ask a pick yes no a b c d", "ask a names 1", "ask a names 6",
                    "ask a yesno when a is yes", "ask a pick b c when not not c is d", "ask ask yesno when ask is ask",
                    "ask a names 6 when ( a < 3 or b > -3 )", "refuse a unless a is b", "refuse refuse unless not a = 0",
                    "warn a unless ( a is b and c is d )", "way end", "way b", "way sheet", "way end when a is b",
                    "way c when not a < 3", "sheet c", "sheet c each d", "sheet b each b",
                    "sheet abcdefghijkl each abcdefghijkl", "sum a 0", "sum a b", "sum sum - 2 b + c + 10 - 3",
                    "sum a " + " + ".join("abcdefghijkl")):
            self.check_read(["paper a", "sheet b", row])

    def test_a_row_in_every_place_where_it_can_stand(self):
        self.check_read(["paper paper", "sheet sheet", "way way", "sheet ask", "ask sum yesno", "sum sum sum", "sum a 0"])
        self.check_read(["paper a", "sheet a", "sheet a", "ask a yesno", "ask a yesno", "warn a unless a is b", "way a"])
        self.check_read(["paper a", "sheet b", "warn c unless c < 1", "ask d yesno", "refuse e unless c < 1",
                         "ask f yesno", "way end", "way end", "sheet g", "ask h yesno", "sum i 1", "sum i 1"])

    def test_arguments_bear_their_names(self):
        self.assertEqual(shown_paper(paper=read_paper(text=TEXT)), TEXT)

    def test_every_row_of_a_sheet_counts_in_its_order(self):
        paper = self.check_read(["paper a", "sheet b", "ask q yesno", "warn c unless q is yes", "ask p yesno",
                                 "refuse d unless p is no"])
        self.assertEqual([row.name for row in paper.sheets[0].rows], ["q", "c", "p", "d"])
        self.assertEqual([type(row) for row in paper.sheets[0].rows], [Ask, Check, Ask, Check])
        self.assertEqual([paper.sheets[0].rows[place].firm for place in (1, 3)], [False, True])


class NoRowTest(ReadingTest):
    def check_none(self, row):
        """Refused wherever it stands, and where all rows ahead are good ones."""
        self.check_rows_refused(["paper a", "sheet b", row], 2)
        self.check_rows_refused(["paper a", "sheet b", row, "way end"], 2)
        self.check_rows_refused(["paper a", "sheet b", row, "no such row"], 2)
        self.check_rows_refused(["paper a", "sheet b", "ask q yesno", row], 3)
        self.check_rows_refused(["paper a", "sheet b", "sum q 0", row], 3)
        self.check_rows_refused(["paper a", row], 1)
        self.check_rows_refused([row, "sheet b"], 0)

    def test_first_rows(self):
        for row in ("paper", "paper ", "paper A", "paper a b", "paper  a", " paper a", "paper a ", "paper\ta", "papera",
                    "Paper a", "paper abcdefghijklm", "paper 3", "paper a each b", "a", "", " "):
            self.check_rows_refused([row, "sheet b"], 0)
            self.check_rows_refused([row, "no such row"], 0)
            self.check_rows_refused([row], 0)
        for word in NO_NAMES:
            self.check_rows_refused(["paper " + word, "sheet b"], 0)

    def test_blanks_and_other_signs(self):
        for good in ("sheet c", "sheet c each d", "ask c yesno", "ask c whole 1 2", "ask c yesno when a is b",
                     "warn c unless a < 3", "refuse c unless not a is b", "way end", "way end when a is b", "sum c 0",
                     "sum c - 2 a + 1"):
            for row in (" " + good, good + " ", good + "\t", "\t" + good, good.upper(), good.replace(" ", "\t"),
                        good.replace(" ", ""), good + " x y", good + "."):
                self.check_none(row)
            words = good.split(" ")
            for place in range(1, len(words)):
                self.check_none(" ".join(words[:place]) + "  " + " ".join(words[place:]))
        for row in ("", " ", "\t", "#", "sheets a", "asks a yesno", "check a unless a is b", "end", "total a 0"):
            self.check_none(row)

    def test_names_that_are_none(self):
        for name in NO_NAMES + ("", "A", "a1", "abcdefghijklm", "-", "3", "a-b"):
            for row in (f"sheet {name}", f"sheet {name} each b", f"sheet b each {name}", f"ask {name} yesno",
                        f"warn {name} unless a is b", f"refuse {name} unless a is b", f"sum {name} 0"):
                self.check_none(row)
            if name != "end":
                self.check_none(f"way {name}")
                self.check_none(f"way {name} when a is b")

    def test_sheets(self):
        for row in ("sheet", "sheet c d", "sheet c each", "sheet c each d e", "sheet c each d each e", "sheet each c",
                    "sheet c when a is b", "sheet c for d"):
            self.check_none(row)

    def test_questions(self):
        for row in ("ask", "ask a", "ask yesno", "ask a yes", "ask a whole", "ask a whole 3 2", "ask a whole 1.00 2.00",
                    "ask a money 1 2", "ask a pick b", "ask a pick b b", "ask a pick b c d e f g h", "ask a names 0",
                    "ask a names 7", "ask a yesno yesno", "ask a b yesno", "ask a when a is b", "ask when a is b",
                    "ask a yesno when", "ask a yesno when ", "ask a yesno when a", "ask a yesno when a is b when a is b",
                    "ask a yesno when when a is b", "ask a yesno unless a is b", "ask a yesno a is b",
                    "ask a pick when b", "ask a pick b when", "ask a yesno when a is b and c is d",
                    "ask a yesno when ( a is b )", "ask a yesno when a < -0", "ask a yesno when yesno"):
            self.check_none(row)

    def test_checks(self):
        for first in ("warn", "refuse"):
            for rest in ("", " a", " a unless", " a unless ", " a unless a", " a unless a is b unless a is b",
                         " a unless unless a is b", " unless a is b", " a when a is b", " a a is b", " a b unless a is b",
                         " a unless a is b when a is b", " a unless a <= 3", " a unless ( a is b and c is d"):
                self.check_none(first + rest)

    def test_ways(self):
        for row in ("way", "way a b", "way end end", "way end when", "way end when ", "way when a is b", "way a when b",
                    "way a unless a is b", "way end a is b", "way a when a is b when a is b", "way end when when a is b"):
            self.check_none(row)

    def test_sums(self):
        for row in ("sum", "sum a", "sum 0", "sum a 1 b", "sum a 0 b", "sum a - 0", "sum a b + b", "sum a + b",
                    "sum a b c d", "sum a = b", "sum a b when a is b", "sum a each b", "sum a -2",
                    "sum a " + " + ".join("abcdefghijklm")):
            self.check_none(row)

    def test_sayings_too_deep_or_with_too_many_atoms(self):
        for good, bad in (
            ("not " * 7 + "a is b", "not " * 8 + "a is b"),
            (nested(numbered(16)), nested(numbered(17))),
            ("a is b", "not " * 2000 + "a is b"),
            ("a is b", "( " * 4000 + "a is b"),
        ):
            for start in ("ask a yesno when ", "warn a unless ", "refuse a unless ", "way end when "):
                self.check_read(["paper a", "sheet b", start + good])
                self.check_none(start + bad)

    def test_what_is_no_text(self):
        for thing in NO_TEXTS + (LEAST, ["paper a", "sheet b"], ("paper a", "sheet b"), b"paper a\nsheet b"):
            self.check_refused(thing, 0)

    def test_only_the_first_row(self):
        self.check_refused("paper a", 1)
        self.check_refused("paper household", 1)
        self.check_refused("", 0)
        self.check_refused("sheet b", 0)

    def test_a_line_feed_too_many(self):
        self.check_refused("paper a\n", 1)
        self.check_refused("paper a\nsheet b\n", 2)
        self.check_refused(TEXT + "\n", 19)
        self.check_refused("\n" + TEXT, 0)
        self.check_refused("\n", 0)
        self.check_refused(TEXT.replace("\n", "\n\n", 1), 1)

    def test_the_first_of_several(self):
        rows = TEXT.split("\n")
        for first in range(len(rows)):
            for second in range(first, len(rows)):
                spoilt = list(rows)
                spoilt[first] = "spoilt"
                spoilt[second] = "spoilt"
                self.check_rows_refused(spoilt, first)


class PlaceTest(ReadingTest):
    def test_paper_elsewhere_than_first(self):
        for ahead in (["paper a"], ["paper a", "sheet b"], ["paper a", "sheet b", "ask q yesno"],
                      ["paper a", "sheet b", "way end"], ["paper a", "sheet b", "sum s 0"]):
            self.check_rows_refused(ahead + ["paper a"], len(ahead))
            self.check_rows_refused(ahead + ["paper c", "sheet d"], len(ahead))

    def test_any_other_row_first(self):
        for row in ("sheet b", "sheet b each c", "ask q yesno", "warn c unless a is b", "refuse c unless a is b",
                    "way end", "sum s 0"):
            self.check_rows_refused([row], 0)
            self.check_rows_refused([row, "sheet b"], 0)
            self.check_rows_refused([row, "paper a", "sheet b"], 0)

    def test_ahead_of_the_first_sheet(self):
        for row in ("ask q yesno", "warn c unless a is b", "refuse c unless a is b", "way end", "way end when a is b",
                    "sum s 0"):
            self.check_rows_refused(["paper a", row], 1)
            self.check_rows_refused(["paper a", row, "sheet b"], 1)

    def test_behind_a_way_of_its_sheet(self):
        for row in ("ask q yesno", "warn c unless a is b", "refuse c unless a is b"):
            self.check_rows_refused(["paper a", "sheet b", "way end", row], 3)
            self.check_rows_refused(["paper a", "sheet b", "ask p yesno", "way end", "way end", row], 5)
            self.check_rows_refused(["paper a", "sheet b", "sheet c", "way end", row], 4)
            self.check_read(["paper a", "sheet b", "way end", "sheet c", row])

    def test_behind_a_sum(self):
        for row in ("sheet c", "sheet c each d", "ask q yesno", "warn c unless a is b", "refuse c unless a is b",
                    "way end", "paper a"):
            self.check_rows_refused(["paper a", "sheet b", "sum s 0", row], 3)
            self.check_rows_refused(["paper a", "sheet b", "way end", "sum s 0", "sum s 0", row, "sum s 0"], 5)
        self.check_read(["paper a", "sheet b", "sum s 0", "sum t 0"])

    def test_four_ways_and_five(self):
        ways = ["way end", "way c when a is b", "way d", "way end when a < 3"]
        self.check_read(["paper a", "sheet b"] + ways)
        self.check_rows_refused(["paper a", "sheet b"] + ways + ["way end"], 6)
        self.check_rows_refused(["paper a", "sheet b"] + ways + ["way end when a is b", "way end"], 6)
        self.check_read(["paper a", "sheet b"] + ways + ["sheet c"] + ways + ["sum s 0"])
        self.check_rows_refused(["paper a", "sheet b"] + ways + ["sheet c"] + ways + ["way end"], 11)

    def test_twelve_sheets_and_thirteen(self):
        sheets = [f"sheet {letter}" for letter in "abcdefghijklm"]
        self.assertEqual(len(self.check_read(["paper a"] + sheets[:12]).sheets), 12)
        self.check_rows_refused(["paper a"] + sheets, 13)
        self.check_rows_refused(["paper a"] + sheets[:12] + ["ask q yesno", "sheet m each q", "way end"], 14)
        self.check_read(["paper a"] + sheets[:12] + ["ask q yesno", "way end", "sum s 0"])

    def test_twelve_sums_and_thirteen(self):
        sums = [f"sum {letter} {letter} + 1" for letter in "abcdefghijklm"]
        self.assertEqual(len(self.check_read(["paper a", "sheet b"] + sums[:12]).totals), 12)
        self.check_rows_refused(["paper a", "sheet b"] + sums, 14)

    def test_a_hundred_rows_and_one_more(self):
        rows = ["paper a", "sheet b"] + ["ask q yesno"] * 98
        self.assertEqual(len(self.check_read(rows).sheets[0].rows), 98)
        for more in ("ask q yesno", "way end", "sheet c", "sum s 0", ""):
            self.check_rows_refused(rows + [more], 100)
            self.check_rows_refused(rows + [more, "ask q yesno"], 100)
        sums = ["sum s 0"] * 12
        self.check_read(rows[:88] + sums)
        self.check_rows_refused(rows[:89] + sums, 100)
        self.check_read(rows[:84] + ["way end"] * 4 + sums)
        self.check_rows_refused(["paper a", "sheet b"] + ["warn c unless c < 1"] * 50 + rows[2:51], 100)

    def test_sixty_atoms_and_sixty_one(self):
        starts = ("ask q yesno when ", "warn c unless ", "refuse c unless ", "way end when ")
        rows = ["paper a", "sheet b"] + [start + nested(numbered(15)) for start in starts]
        self.check_read(rows)
        self.check_read(rows + ["way end", "sheet c", "ask q yesno", "sum s 0"])
        for start in starts:
            self.check_rows_refused(rows + ["sheet c", "ask q yesno", start + "a is b"], 8)
            self.check_rows_refused(rows + ["sheet c", start + "a is b", "no such row"], 7)
        sixteen = [start + nested(numbered(16)) for start in starts]
        self.check_read(["paper a", "sheet b"] + sixteen[:3] + ["way end when " + nested(numbered(12))])
        self.check_rows_refused(["paper a", "sheet b"] + sixteen[:3] + ["way end when " + nested(numbered(13))], 5)
        self.check_rows_refused(["paper a", "sheet b"] + sixteen, 5)
        singles = ["warn c unless not a is b"] * 60
        self.check_read(["paper a", "sheet b"] + singles)
        self.check_rows_refused(["paper a", "sheet b"] + singles + singles[:1], 62)


class NothingIsChangedTest(ReadingTest):
    def test_a_paper_that_is_written_stays(self):
        paper = copy.deepcopy(PAPER)
        shown_paper(paper)
        self.assertEqual(paper_tree(paper), paper_tree(PAPER))

    def test_papers_that_are_told_are_the_askers_own(self):
        first = read_paper(TEXT)
        second = read_paper(TEXT)
        first.sheets[0].rows.clear()
        first.sheets[0].ways.append(("end", None))
        first.sheets.pop()
        first.totals[0][1].append((1, None))
        first.totals.append(("s", [(0, None)]))
        self.assertEqual(paper_tree(second), paper_tree(PAPER))
        self.assertEqual(paper_tree(read_paper(TEXT)), paper_tree(PAPER))

    def test_a_settled_paper_is_written_as_before(self):
        paper = read_paper(TEXT)
        kinds = {row.name: row.kind for sheet in paper.sheets for row in sheet.rows if isinstance(row, Ask)}
        for sheet in paper.sheets:
            for row in sheet.rows:
                if isinstance(row, Check):
                    row.test.settled(kinds)
        self.assertEqual(paper_tree(paper), paper_tree(PAPER))
        row = paper.sheets[0].rows[2]
        settled = Paper("a", [Sheet("b", None, [Ask("kids", row.kind, row.when.settled(kinds))], [])], [])
        self.assertEqual(shown_paper(settled), "paper a\nsheet b\n" + TEXT.split("\n")[4])


if __name__ == "__main__":
    unittest.main()
