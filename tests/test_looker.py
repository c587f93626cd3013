import copy
import random
import unittest

from askpaper.cover import cover
from askpaper.going import straight
from askpaper.hands import Hand
from askpaper.looker import come_to, ending, met, two_ways
from askpaper.reading import read_paper
from making import made_book, rich_texts, sound_texts
from plain import PlainPaper
from things import paper_of, paper_tree

KIDS = ("sheet one", "ask go yesno", "ask kids names 3 when go is yes", "sheet two each kids", "ask age whole 1 9",
        "ask job yesno when age > 4", "warn old unless age < 7", "sheet three", "ask done yesno")


def book_of(row):
    return {(question, thing): answer for question, thing, answer in row}


def counted(log):
    return [entry[1:] for entry in log if entry[0] == "ask"]


class LookerTest(unittest.TestCase):
    def check_row(self, told, row):
        self.assertEqual(told, ("row", row))
        self.assertEqual((type(told), type(told[1])), (tuple, list))
        self.assertTrue(all(type(answer) is tuple for answer in told[1]))

    def check_cover(self, told, word, nodes):
        self.assertEqual(told, (word, nodes))
        self.assertEqual((type(told), type(told[1])), (tuple, list))


class ComeToTest(LookerTest):
    def check_open(self, rows, question, row):
        paper = paper_of(*rows)
        with self.subTest(rows=rows, question=question):
            self.check_row(come_to(paper, question), row)
            log = straight(paper, book_of(row))
            self.assertEqual(log[-1][:2], ("open", question))
            self.assertEqual(counted(log), row)

    def test_the_first_question(self):
        self.check_open(("sheet one", "ask a yesno"), "a", [])

    def test_samples_of_the_least_rank_of_each_range(self):
        rows = ("sheet one", "ask a whole -3 9", "ask b yesno", "ask c pick red green blue", "ask d names 4",
                "ask e money -1.00 2.50", "ask f yesno when ( a > 4 and c is green )", "ask g yesno when ( d = 2 or b is yes )")
        first = [("a", "", -3), ("b", "", False), ("c", "", "red"), ("d", "", ()), ("e", "", -100)]
        for count, question in enumerate("abcde"):
            self.check_open(rows, question, first[:count])
        self.check_open(rows, "f", [("a", "", 5), ("b", "", False), ("c", "", "green"), ("d", "", ()), ("e", "", -100)])
        self.check_open(rows, "g", [("a", "", -3), ("b", "", True), ("c", "", "red"), ("d", "", ()), ("e", "", -100)])
        self.check_open(rows + ("refuse r unless b is no", "ask h yesno when not d < 2"), "h", [
            ("a", "", -3), ("b", "", False), ("c", "", "red"), ("d", "", ("a", "b")), ("e", "", -100), ("g", "", False)])

    def test_things_are_named_by_the_answer_in_the_row(self):
        self.check_open(KIDS, "age", [("go", "", True), ("kids", "", ("a",))])
        self.check_open(KIDS, "job", [("go", "", True), ("kids", "", ("a",)), ("age", "a", 5)])
        rows = KIDS[:-1] + ("ask done yesno when t > 17", "sum t age")
        self.check_open(rows, "done", [
            ("go", "", True), ("kids", "", ("a", "b")), ("age", "a", 9), ("job", "a", False), ("age", "b", 9),
            ("job", "b", False)])

    def test_there_first(self):
        # It is asked of the second thing, too, but of the first one first; then of the second one alone.
        rows = ("sheet one", "ask kids names 2", "refuse r unless kids = 2", "sheet two each kids", "ask age yesno",
                "ask job yesno when age is yes")
        self.check_open(rows, "age", [("kids", "", ("a", "b"))])
        self.check_open(rows, "job", [("kids", "", ("a", "b")), ("age", "a", False), ("age", "b", True)])

    def test_by_the_first_leaf_also_a_dark_one(self):
        paper = paper_of("sheet one", "ask a whole 0 9", "warn v unless a > 4", "ask b yesno", "refuse w unless a < 5",
                         "ask c yesno", "warn x unless c is yes", "ask d yesno")
        self.assertEqual([node[:2] for node in cover(paper, 1)], [("split", "a"), ("leaf", False), ("leaf", True)])
        self.check_row(come_to(paper, "b", 1), [("a", "", 0)])
        self.check_row(come_to(paper, "c", 1), [("a", "", 0), ("b", "", False)])
        self.check_row(met(paper, "v", 1), [("a", "", 5)])
        self.check_cover(come_to(paper, "d", 1), "unknown", cover(paper, 1))
        self.check_row(come_to(paper, "d", 2), [("a", "", 0), ("b", "", False), ("c", "", False)])

    def test_no_leaf_asks_it(self):
        paper = paper_of("sheet one", "ask a whole 0 9", "warn v unless a > 7", "ask b yesno when ( a > 6 and a < 3 )")
        for most in (0, 1):
            self.check_cover(come_to(paper, "b", most), "unknown", cover(paper, most))
        for most in (2, 3, 64):
            self.check_cover(come_to(paper, "b", most), "shut", cover(paper, most))
        self.check_cover(come_to(paper, "b"), "shut", cover(paper))

    def test_on_a_sheet_that_is_never_come_to(self):
        paper = paper_of("sheet one", "ask a yesno", "way end", "sheet two", "ask b yesno")
        self.check_cover(come_to(paper, "b", 0), "shut", cover(paper, 0))


class MetTest(LookerTest):
    def check_passed(self, rows, check, row):
        paper = paper_of(*rows)
        with self.subTest(rows=rows, check=check):
            self.check_row(met(paper, check), row)
            log = straight(paper, book_of(row))
            self.assertIn(("pass", check), [entry[:2] for entry in log])
            self.assertEqual(counted(log), row)

    def test_passed_not_only_come_to(self):
        for word in ("warn", "refuse"):
            rows = ("sheet one", "ask a whole 0 9", f"{word} w unless a > 4", "ask b yesno")
            self.check_passed(rows, "w", [("a", "", 5)])

    def test_up_to_what_is_asked_ahead_of_that(self):
        rows = ("sheet one", "ask a whole 0 9", "ask b yesno", "warn w unless a < 5", "ask c yesno", "warn x unless b is yes")
        self.check_passed(rows, "w", [("a", "", 0), ("b", "", False)])
        self.check_passed(rows, "x", [("a", "", 0), ("b", "", True), ("c", "", False)])

    def test_of_a_thing(self):
        self.check_passed(KIDS, "old", [("go", "", True), ("kids", "", ("a",)), ("age", "a", 1)])
        # Not passed of the first thing by the first leaf that has it passed at all.
        rows = ("sheet one", "ask kids names 2", "sheet two each kids", "ask a yesno", "warn w unless ( a is yes and kids = 2 )")
        paper = paper_of(*rows)
        leaf = [node for node in cover(paper) if node[0] == "leaf" and "pass" in [entry[0] for entry in node[2]]][0]
        self.assertEqual([entry[0] for entry in leaf[2]], ["ask", "ask", "warn", "ask", "pass", "end"])
        self.check_passed(rows, "w", [("kids", "", ("a", "b")), ("a", "a", False), ("a", "b", True)])

    def test_without_questions(self):
        self.check_passed(("sheet one", "refuse r unless t > 2", "sum t 3"), "r", [])

    def test_no_leaf_has_it_passed(self):
        rows = ("sheet one", "ask a whole 0 9", "warn v unless a > 4", "warn w unless t > 3", "refuse x unless a > 9",
                "warn y unless a > 0", "sum t 3")
        paper = paper_of(*rows)
        for check in "wxy":
            self.check_cover(met(paper, check, 0), "unknown", cover(paper, 0))
            self.check_cover(met(paper, check, 1), "shut", cover(paper, 1))
            self.check_cover(met(paper, check), "shut", cover(paper))
        self.check_row(met(paper, "v", 1), [("a", "", 5)])


class TwoWaysTest(LookerTest):
    ROWS = ("sheet one", "ask a whole 0 9", "ask b yesno", "way three when a < 6", "way end when a > 3", "sheet two",
            "ask c yesno", "sheet three", "ask d yesno", "way end", "way end when d is yes")

    def test_up_to_all_that_was_asked_ahead_of_its_ways(self):
        paper = paper_of(*self.ROWS)
        self.check_row(two_ways(paper, "one"), [("a", "", 4), ("b", "", False)])
        self.check_row(two_ways(paper, "three"), [("a", "", 0), ("b", "", False), ("d", "", True)])

    def test_also_to_the_same_target(self):
        paper = paper_of("sheet one", "ask a yesno", "way two", "way two when a is yes", "sheet two", "ask b yesno")
        self.check_row(two_ways(paper, "one"), [("a", "", True)])

    def test_without_questions(self):
        self.check_row(two_ways(paper_of("sheet one", "way end", "way end"), "one", 0), [])

    def test_of_a_sheet_that_comes_again(self):
        rows = ("sheet one", "ask kids names 2", "sheet two each kids", "ask a whole 0 9", "way end when t > 9",
                "way end when t > 10", "sheet three", "ask b yesno", "sum t a")
        paper = paper_of(*rows)
        nodes = [node for node in cover(paper) if node[0] == "leaf" and node[4] == ["two"]]
        ranks = [span[2] for span in nodes[0][3]]
        self.check_row(two_ways(paper, "two"), [("kids", "", ("a", "b")), ("a", "a", ranks[1]), ("a", "b", ranks[2])])
        self.assertGreater(ranks[1] + ranks[2], 10)

    def test_also_where_there_was_nothing_to_go_through(self):
        paper = paper_of("sheet one", "ask kids names 2", "sheet two each kids", "ask a yesno", "way end", "way end when kids = 0")
        self.check_row(two_ways(paper, "two"), [("kids", "", ())])

    def test_no_leaf_has_it(self):
        paper = paper_of(*self.ROWS[:4], "way end when a > 5", *self.ROWS[5:8])
        for sheet in ("one", "two", "three"):
            self.check_cover(two_ways(paper, sheet, 0), "unknown", cover(paper, 0))
            self.check_cover(two_ways(paper, sheet), "shut", cover(paper))

    def test_not_where_a_dark_leaf_is_unsure_at_its_ways(self):
        paper = paper_of("sheet one", "ask a yesno", "way end", "way end", "way end when a is yes")
        self.check_cover(two_ways(paper, "one", 0), "unknown", cover(paper, 0))
        self.check_row(two_ways(paper, "one", 1), [("a", "", False)])


class EndingTest(LookerTest):
    def check_ends(self, rows, row, told, most=64):
        paper = paper_of(*rows)
        with self.subTest(rows=rows, row=row):
            self.check_row(ending(paper, row, most), told)
            log = straight(paper, book_of(told))
            self.assertEqual(log[-1], ("end",))
            self.assertEqual(counted(log), told)
            counting = counted(straight(paper, book_of(row)))
            self.assertEqual(told[:len(counting)], counting)

    def test_without_answers(self):
        self.check_ends(("sheet one",), [], [])
        self.check_ends(KIDS, [], [("go", "", False), ("done", "", False)])

    def test_answers_that_count_stay_as_they_are(self):
        self.check_ends(KIDS, [("go", "", True)], [("go", "", True), ("kids", "", ()), ("done", "", False)])
        self.check_ends(KIDS, [("go", "", True), ("kids", "", ("zoe",))],
                        [("go", "", True), ("kids", "", ("zoe",)), ("age", "zoe", 1), ("done", "", False)])

    def test_things_are_named_by_them(self):
        row = [("go", "", True), ("kids", "", ("zoe", "bob", "al")), ("age", "zoe", 8), ("job", "zoe", True), ("age", "bob", 3)]
        self.check_ends(KIDS, row, row + [("age", "al", 1), ("done", "", False)])
        self.check_ends(KIDS, row[:3], row[:3] + [("job", "zoe", False), ("age", "bob", 1), ("age", "al", 1),
                                                  ("done", "", False)])

    def test_in_any_order(self):
        row = [("go", "", True), ("kids", "", ("zoe", "bob")), ("age", "zoe", 4), ("age", "bob", 3), ("done", "", True)]
        rng = random.Random(71)
        for _ in range(20):
            self.check_ends(KIDS, rng.sample(row, len(row)), row)

    def test_answers_that_dont_count_are_left_out_of_account(self):
        # The going is open at kids, at the age of zoe; what stands behind doesn't count there.
        for aside in ([("done", "", True)], [("age", "zoe", 8), ("done", "", True)], [("age", "a", 9), ("job", "a", True)]):
            self.check_ends(KIDS, aside + [("go", "", True)], [("go", "", True), ("kids", "", ()), ("done", "", False)])
        self.check_ends(KIDS, [("age", "bob", 7), ("kids", "", ("zoe", "bob")), ("go", "", True)], [
            ("go", "", True), ("kids", "", ("zoe", "bob")), ("age", "zoe", 1), ("age", "bob", 1), ("done", "", False)])

    def test_answers_of_what_isnt_asked_are_left_out_of_account(self):
        self.check_ends(KIDS, [("kids", "", ("zoe",)), ("age", "zoe", 8), ("go", "", False), ("done", "", True)],
                        [("go", "", False), ("done", "", True)])
        self.check_ends(KIDS, [("go", "", True), ("kids", "", ("bob",)), ("age", "zoe", 8)],
                        [("go", "", True), ("kids", "", ("bob",)), ("age", "bob", 1), ("done", "", False)])

    def test_answers_that_are_none_of_their_kind(self):
        for wrong in (1, "yes", None, [], {}, (), 1.0):
            self.check_ends(KIDS, [("done", "", True), ("go", "", wrong)], [("go", "", False), ("done", "", False)])
        for wrong in (["zoe"], ("zoe", "zoe"), ("end",), "zoe", 1, True, ("a", "b", "c", "d")):
            self.check_ends(KIDS, [("kids", "", wrong), ("go", "", True)], [("go", "", True), ("kids", "", ()), ("done", "", False)])
        for wrong in (0, 10, True, "5"):
            self.check_ends(KIDS, [("kids", "", ("zoe",)), ("go", "", True), ("age", "zoe", wrong)],
                            [("go", "", True), ("kids", "", ("zoe",)), ("age", "zoe", 1), ("done", "", False)])

    def test_what_a_hand_keeps_aside(self):
        hand = Hand(paper_of(*KIDS))
        for text in ("yes", "zoe bob", "8", "yes", "3", "yes"):
            hand.answer(text)
        hand.jump("kids")
        hand.answer("bob")
        self.assertEqual(hand.aside(), [("age", "zoe", 8), ("job", "zoe", True)])
        self.check_ends(KIDS, hand.aside() + hand.counts(), hand.counts())
        self.check_ends(KIDS, hand.aside(), [("go", "", False), ("done", "", False)])

    def test_every_kind_of_answer_stays(self):
        rows = ("sheet one", "ask a yesno", "ask b whole 0 9", "ask c money 0.00 9.00", "ask d pick red green blue", "ask e names 3")
        row = [("a", "", True), ("b", "", 7), ("c", "", 345), ("d", "", "blue"), ("e", "", ("y", "x"))]
        self.check_ends(rows, row, row)
        self.check_ends(rows, row, row, 0)

    def test_by_the_first_leaf_that_ends_not_by_one_that_is_held(self):
        rows = ("sheet one", "ask a whole 0 9", "refuse r unless a > 4", "ask b yesno", "refuse s unless b is yes")
        self.check_ends(rows, [], [("a", "", 5), ("b", "", True)])
        self.check_ends(rows, [("a", "", 7)], [("a", "", 7), ("b", "", True)])
        self.check_ends(rows, [("b", "", False)], [("a", "", 5), ("b", "", True)])

    def test_shut(self):
        rows = ("sheet one", "ask a whole 0 9", "refuse r unless a > 4", "ask b yesno", "refuse s unless b is yes")
        paper = paper_of(*rows)
        self.check_cover(ending(paper, [("a", "", 3)]), "shut", cover(paper, 64, {("a", 0): (3, 3)}))
        self.check_cover(ending(paper, [("a", "", 3)], 0), "shut", cover(paper, 0, {("a", 0): (3, 3)}))
        self.check_cover(ending(paper, [("b", "", False), ("a", "", 6)]), "shut",
                         cover(paper, 64, {("a", 0): (6, 6), ("b", 0): (0, 0)}))
        paper = paper_of("sheet one", "ask a whole 0 9", "ask b whole 0 9", "refuse r unless a > 4", "refuse s unless a < 5")
        self.check_cover(ending(paper, []), "shut", cover(paper))
        self.check_cover(ending(paper, [("b", "", 4)]), "shut", cover(paper))

    def test_of_things_the_place_is_fixed(self):
        rows = KIDS[:5] + ("refuse old unless age < 7",)
        paper = paper_of(*rows)
        row = [("go", "", True), ("kids", "", ("zoe", "bob")), ("age", "zoe", 4), ("age", "bob", 8)]
        fixed = {("go", 0): (1, 1), ("kids", 0): (2, 2), ("age", 0): (4, 4), ("age", 1): (8, 8)}
        self.check_cover(ending(paper, row), "shut", cover(paper, 64, fixed))

    def test_unknown(self):
        paper = paper_of("sheet one", "ask a whole 0 9", "ask b yesno", "refuse r unless a > 4", "refuse s unless b is yes")
        self.check_cover(ending(paper, [], 0), "unknown", cover(paper, 0))
        # Below, it is held, and above, dark.
        self.check_cover(ending(paper, [], 1), "unknown", cover(paper, 1))
        self.check_row(ending(paper, [], 2), [("a", "", 5), ("b", "", True)])
        self.check_cover(ending(paper, [("a", "", 6)], 0), "unknown", cover(paper, 0, {("a", 0): (6, 6)}))

    def test_left_out_most_is_64(self):
        atoms = [f"refuse r{letter} unless a > {place}" for place, letter in enumerate("abcdefghijklmnopqrstuvwxyz", 10)]
        more = [f"warn w{letter} unless b > {place}" for place, letter in enumerate("abcdefghijkl", 10)]
        paper = paper_of("sheet one", "ask b whole 0 99", "ask a whole 0 99", *more, *atoms)
        nodes = cover(paper)
        self.assertIn(("leaf", False), [node[:2] for node in nodes])
        self.check_cover(ending(paper, []), "unknown", nodes)
        self.check_cover(two_ways(paper, "one"), "unknown", nodes)
        self.check_cover(met(paper, "rz"), "unknown", nodes)
        paper = paper_of("sheet one", "ask b whole 0 99", "ask a whole 0 99", *more, *atoms, "ask c yesno")
        self.check_cover(come_to(paper, "c"), "unknown", cover(paper))


def cut_behind(text, sheet):
    """The text of a paper that has only the sheets up to one; ways further on lead to the end."""
    rows = text.split("\n")
    names = [row.split(" ")[1] for row in rows if row.startswith("sheet ")]
    kept = names[:names.index(sheet) + 1]
    told, sums, inside = [], [row for row in rows if row.startswith("sum ")], True
    for row in rows:
        words = row.split(" ")
        inside = words[1] in kept if words[0] == "sheet" else inside
        if words[0] == "way" and words[1] not in kept:
            words[1] = "end"
        if inside and words[0] != "sum":
            told.append(" ".join(words))
    return "\n".join(told + sums)


class ManyPapersTest(LookerTest):
    def setUp(self):
        self.rng = random.Random(72)
        self.told = {}

    def note(self, word, told):
        key = (word, told[0])
        self.told[key] = self.told.get(key, 0) + 1

    def check_all_told(self, word, least):
        counts = {told: self.told.get((word, told), 0) for told in ("row", "shut", "unknown")}
        self.assertTrue(min(counts.values()) > least, counts)

    def papers(self, seed):
        for text in sound_texts(80, seed) + rich_texts(80, seed + 1):
            yield text, read_paper(text), PlainPaper(text)

    def logs(self, paper, plain, count=12):
        return [straight(paper, made_book(self.rng, plain, 0)) for _ in range(count)]

    def test_questions(self):
        for text, paper, plain in self.papers(73):
            logs = self.logs(paper, plain)
            for question in plain.kinds:
                most = self.rng.choice((0, 3, 10, 64))
                with self.subTest(text=text, question=question, most=most):
                    told = come_to(paper, question, most)
                    self.assertEqual(told, plain.come_to(question, most))
                    self.note("come", told)
                    if told[0] == "row":
                        log = straight(paper, book_of(told[1]))
                        self.assertEqual((log[-1][:2], counted(log)), (("open", question), told[1]))
                    if told[0] == "shut":
                        self.assertFalse(any(question == entry[0] for log in logs for entry in counted(log)))
        self.check_all_told("come", 9)

    def test_checks(self):
        for text, paper, plain in self.papers(75):
            logs = self.logs(paper, plain)
            for check in [line[1] for sheet in plain.sheets for line in sheet.lines if line[0] in ("refuse", "warn")]:
                most = self.rng.choice((0, 3, 10, 64))
                with self.subTest(text=text, check=check, most=most):
                    told = met(paper, check, most)
                    self.assertEqual(told, plain.met(check, most))
                    self.note("met", told)
                    if told[0] == "row":
                        log = straight(paper, book_of(told[1]))
                        self.assertIn(("pass", check), [entry[:2] for entry in log])
                        self.assertEqual(counted(log), told[1])
                    if told[0] == "shut":
                        self.assertFalse(any(("pass", check) == entry[:2] for log in logs for entry in log))
        self.check_all_told("met", 9)

    def test_sheets(self):
        for text, paper, plain in self.papers(77):
            for place, sheet in enumerate(plain.sheets):
                most = self.rng.choice((0, 3, 10, 64))
                with self.subTest(text=text, sheet=sheet.name, most=most):
                    told = two_ways(paper, sheet.name, most)
                    self.assertEqual(told, plain.two_ways(sheet.name, most))
                    self.note("two", told)
                    if told[0] == "row":
                        cut = PlainPaper(cut_behind(text, sheet.name))
                        log = cut.straight(book_of(told[1]))
                        self.assertEqual((log[-1], counted(log)), (("end",), told[1]))
                        holding = [line for line in sheet.lines if line[0] == "way" and cut.holds(line[3], place, "")]
                        self.assertGreater(len(holding), 1)
        self.check_all_told("two", 9)

    def made_row(self, plain):
        """Some of the answers of a book, in any order, of which some are none of their kind."""
        book = made_book(self.rng, plain, self.rng.choice((0, 0.05, 0.3)))
        row = [(*key, answer) for key, answer in book.items() if isinstance(key, tuple) and key[0] in plain.kinds
               and len(key) == 2 and isinstance(key[1], str)]
        return self.rng.sample(row, self.rng.randint(0, len(row)))

    def test_endings(self):
        for text, paper, plain in self.papers(79):
            for most in (0, 2, 64):
                row = self.made_row(plain) if self.rng.random() < 0.8 else []
                with self.subTest(text=text, row=row, most=most):
                    told = ending(paper, row, most)
                    self.assertEqual(told, plain.ending(row, most))
                    self.note("end", told)
                    counting = counted(straight(paper, book_of(row)))
                    if told[0] == "row":
                        log = straight(paper, book_of(told[1]))
                        self.assertEqual((log[-1], counted(log)), (("end",), told[1]))
                        self.assertEqual(told[1][:len(counting)], counting)
                    if told[0] == "shut":
                        for _ in range(8):
                            book = {**made_book(self.rng, plain, 0), **book_of(counting)}
                            self.assertNotEqual(straight(paper, book)[-1], ("end",))
        self.check_all_told("end", 9)

    def test_what_is_handed_in_stays_and_what_is_told_is_the_askers_own(self):
        for text in rich_texts(20, 81):
            paper, plain = read_paper(text), PlainPaper(text)
            row = self.made_row(plain)
            kept = copy.deepcopy((paper_tree(paper), row))
            for most in (1, 64):
                asked = [lambda: ending(paper, row, most), lambda: come_to(paper, list(plain.kinds)[-1], most),
                         lambda: two_ways(paper, plain.sheets[0].name, most)]
                for ask in asked:
                    told = ask()
                    again = copy.deepcopy(told)
                    other = ask()
                    for node in other[1]:
                        for part in node:
                            if isinstance(part, list):
                                part.append("nope")
                    other[1].clear()
                    self.assertEqual(told, again)
                    self.assertEqual(ask(), again)
                    self.assertEqual((paper_tree(paper), row), kept)


if __name__ == "__main__":
    unittest.main()
