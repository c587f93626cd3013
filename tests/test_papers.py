import unittest

from askpaper.kinds import Whole, YesNo
from askpaper.papers import Ask, Check, Paper, Row, Sheet
from askpaper.sayings import Compare, Is


class PapersTest(unittest.TestCase):
    def test_rows(self):
        kind = Whole(0, 9)
        when = Is("well", "yes")
        self.assertEqual(Row(name="a").name, "a")
        ask = Ask(name="age", kind=kind, when=when)
        self.assertEqual((ask.name, ask.kind, ask.when), ("age", kind, when))
        self.assertIsNone(Ask("age", kind).when)
        check = Check(name="fair", test=when, firm=False)
        self.assertEqual((check.name, check.test, check.firm), ("fair", when, False))
        self.assertIs(Check("fair", when).firm, True)
        for row in (ask, check):
            self.assertIsInstance(row, Row)
        self.assertNotIsInstance(ask, Check)
        self.assertNotIsInstance(check, Ask)

    def test_sheets(self):
        rows = [Ask("well", YesNo()), Check("fair", Is("well", "yes"))]
        ways = [("end", Is("well", "no")), ("other", None)]
        sheet = Sheet(name="first", each="kids", rows=rows, ways=ways)
        self.assertEqual((sheet.name, sheet.each, sheet.rows, sheet.ways), ("first", "kids", rows, ways))
        empty = Sheet("bare", None, [], [])
        self.assertEqual((empty.name, empty.each, empty.rows, empty.ways), ("bare", None, [], []))

    def test_papers(self):
        sheets = [Sheet("first", None, [], []), Sheet("other", None, [], [])]
        totals = [("total", [(2, "age"), (-1, None)]), ("more", [(1, "total")])]
        paper = Paper(name="form", sheets=sheets, totals=totals)
        self.assertEqual((paper.name, paper.sheets, paper.totals), ("form", sheets, totals))
        self.assertEqual(Paper("form", sheets, []).totals, [])

    def test_nothing_that_is_handed_in_is_changed(self):
        rows = [Ask("well", YesNo())]
        ways = [("end", Compare("age", "<", 3))]
        sheets = [Sheet("first", None, rows, ways)]
        totals = [("total", [(2, "age")])]
        before = (list(rows), list(ways), list(sheets), [("total", [(2, "age")])])
        paper = Paper("form", sheets, totals)
        self.assertEqual((rows, ways, sheets, totals), before)
        paper.sheets.append(None)
        paper.totals[0][1].append(None)
        paper.sheets[0].rows.append(None)
        paper.sheets[0].ways.append(None)
        self.assertEqual((rows, ways, sheets, totals), before)

    def test_each_has_lists_of_its_own(self):
        one = Sheet("one", None, [], [])
        other = Sheet("other", None, [], [])
        one.rows.append(Row("a"))
        one.ways.append(("end", None))
        self.assertEqual((other.rows, other.ways), ([], []))


if __name__ == "__main__":
    unittest.main()
