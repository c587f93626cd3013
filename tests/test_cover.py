import copy
import itertools
import random
import unittest

from askpaper.cover import cover
from askpaper.going import straight
from askpaper.looks import kinds_of
from askpaper.reading import read_paper
from making import made_book, made_box, rich_texts, sound_texts
from plain import PlainPaper, rank_of
from things import paper_of, paper_tree

KIDS = ("sheet one", "ask kids names 3", "sheet two each kids", "ask age whole 0 9", "warn old unless age < 5")


def leaves_of(nodes):
    return [node for node in nodes if node[0] == "leaf"]


def dark_of(nodes):
    return [node for node in nodes if node[:2] == ("leaf", False)]


def splits_of(nodes):
    return [node for node in nodes if node[0] == "split"]


def checks(name, letters, first):
    """Rows of checks of a question, one for each letter, all with unlike numbers."""
    return [f"warn {name}{letter} unless {name} > {first + place}" for place, letter in enumerate(letters)]


def grid(letters, others):
    """A paper whose first box falls into (letters + 1) * (others + 1) leaves."""
    return paper_of("sheet one", "ask a whole 0 99", "ask b whole 0 99", *checks("a", letters, 10),
                    *checks("b", others, 20))


class CoverTest(unittest.TestCase):
    def check_cover(self, rows, told, *most_and_fixed):
        with self.subTest(rows=rows, most_and_fixed=most_and_fixed):
            self.assertEqual(cover(paper_of(*rows), *most_and_fixed), told)


class NodesTest(CoverTest):
    def test_without_questions(self):
        self.check_cover(("sheet one",), [("leaf", True, [("end",)], [], [])])
        self.check_cover(("sheet one", "warn w unless t > 3", "refuse r unless t > 3", "sum t 3"),
                         [("leaf", True, [("warn", "w", 0), ("held", "r", 0)], [], [])])

    def test_without_questions_and_without_splits(self):
        self.check_cover(("sheet one", "way end", "way end"), [("leaf", True, [("end",)], [], ["one"])], 0)

    def test_without_sayings(self):
        rows = ("sheet one", "ask a whole -3 9", "ask b yesno", "sheet two", "ask c pick red green blue", "ask d names 4",
                "ask e money -1.00 2.50")
        log = [("ask", name, 0) for name in "abcde"] + [("end",)]
        ranges = [("a", 0, -3, 9), ("b", 0, 0, 1), ("c", 0, 0, 2), ("d", 0, 0, 4), ("e", 0, -100, 250)]
        self.check_cover(rows, [("leaf", True, log, ranges, [])])

    def test_one_split(self):
        self.check_cover(("sheet one", "ask a whole 0 9", "ask b yesno", "warn w unless a > 4"), [
            ("split", "a", 0, 4, 1, 2),
            ("leaf", True, [("ask", "a", 0), ("ask", "b", 0), ("warn", "w", 0), ("end",)],
             [("a", 0, 0, 4), ("b", 0, 0, 1)], []),
            ("leaf", True, [("ask", "a", 0), ("ask", "b", 0), ("pass", "w", 0), ("end",)],
             [("a", 0, 5, 9), ("b", 0, 0, 1)], []),
        ])

    def test_nodes_are_worked_in_their_order(self):
        rows = ("sheet one", "ask a whole 0 9", "ask b yesno", "warn v unless a > 4", "refuse w unless a = 3",
                "warn x unless b is yes")
        asks = [("ask", "a", 0), ("ask", "b", 0)]
        told = [
            ("split", "a", 0, 4, 1, 2),
            ("split", "a", 0, 2, 3, 4),
            ("leaf", True, asks + [("pass", "v", 0), ("held", "w", 0)], [("a", 0, 5, 9), ("b", 0, 0, 1)], []),
            ("leaf", True, asks + [("warn", "v", 0), ("held", "w", 0)], [("a", 0, 0, 2), ("b", 0, 0, 1)], []),
            ("split", "a", 0, 3, 5, 6),
            ("split", "b", 0, 0, 7, 8),
            ("leaf", True, asks + [("warn", "v", 0), ("held", "w", 0)], [("a", 0, 4, 4), ("b", 0, 0, 1)], []),
            ("leaf", True, asks + [("warn", "v", 0), ("pass", "w", 0), ("warn", "x", 0), ("end",)],
             [("a", 0, 3, 3), ("b", 0, 0, 0)], []),
            ("leaf", True, asks + [("warn", "v", 0), ("pass", "w", 0), ("pass", "x", 0), ("end",)],
             [("a", 0, 3, 3), ("b", 0, 1, 1)], []),
        ]
        self.check_cover(rows, told)
        for most in (4, 5, 64, 400):
            self.check_cover(rows, told, most)

    def test_of_what_kinds_nodes_are(self):
        nodes = cover(paper_of(*KIDS))
        self.assertIs(type(nodes), list)
        for node in nodes:
            self.assertIs(type(node), tuple)
            if node[0] == "leaf":
                self.assertEqual([type(part) for part in node[1:]], [bool, list, list, list])
                self.assertTrue(all(type(row) is tuple for row in node[2] + node[3]))
            else:
                self.assertEqual([type(part) for part in node[1:]], [str, int, int, int, int])

    def test_every_leaf_is_held(self):
        rows = ("sheet one", "ask a whole 0 9", "refuse v unless a > 4", "refuse w unless a < 5")
        self.check_cover(rows, [
            ("split", "a", 0, 4, 1, 2),
            ("leaf", True, [("ask", "a", 0), ("held", "v", 0)], [("a", 0, 0, 4)], []),
            ("leaf", True, [("ask", "a", 0), ("pass", "v", 0), ("held", "w", 0)], [("a", 0, 5, 9)], []),
        ])

    def test_doubles_also_where_ways_lead_to_the_same_target(self):
        rows = ("sheet one", "ask a whole 0 9", "way two when a > 4", "way two when a > 7", "sheet two", "way end", "way end")
        log = [("ask", "a", 0), ("end",)]
        self.check_cover(rows, [
            ("split", "a", 0, 4, 1, 2),
            ("leaf", True, log, [("a", 0, 0, 4)], ["two"]),
            ("split", "a", 0, 7, 3, 4),
            ("leaf", True, log, [("a", 0, 5, 7)], ["two"]),
            ("leaf", True, log, [("a", 0, 8, 9)], ["one", "two"]),
        ])


class MostTest(CoverTest):
    ROWS = ("sheet one", "way two", "way end", "sheet two", "ask a whole 0 9", "warn v unless a > 4", "ask b yesno",
            "warn w unless b is yes")

    def test_none_lets_a_dark_leaf_stay(self):
        self.check_cover(self.ROWS, [("leaf", False, [("ask", "a", 0)], [("a", 0, 0, 9)], ["one"])], 0)

    def test_dark_at_the_first_sheet(self):
        rows = ("sheet one", "ask kids names 2", "sheet two each kids", "ask a yesno")
        self.check_cover(rows, [("leaf", False, [("ask", "kids", 0)], [("kids", 0, 0, 2)], [])], 0)

    def test_one_split_too_few(self):
        below = [("ask", "a", 0), ("warn", "v", 0), ("ask", "b", 0)]
        above = [("ask", "a", 0), ("pass", "v", 0), ("ask", "b", 0)]
        first = ("split", "a", 0, 4, 1, 2)
        self.check_cover(self.ROWS, [
            first,
            ("leaf", False, below, [("a", 0, 0, 4), ("b", 0, 0, 1)], ["one"]),
            ("leaf", False, above, [("a", 0, 5, 9), ("b", 0, 0, 1)], ["one"]),
        ], 1)
        lit = [
            ("leaf", True, below + [("warn", "w", 0), ("end",)], [("a", 0, 0, 4), ("b", 0, 0, 0)], ["one"]),
            ("leaf", True, below + [("pass", "w", 0), ("end",)], [("a", 0, 0, 4), ("b", 0, 1, 1)], ["one"]),
        ]
        self.check_cover(self.ROWS, [
            first,
            ("split", "b", 0, 0, 3, 4),
            ("leaf", False, above, [("a", 0, 5, 9), ("b", 0, 0, 1)], ["one"]),
        ] + lit, 2)
        self.check_cover(self.ROWS, [
            first,
            ("split", "b", 0, 0, 3, 4),
            ("split", "b", 0, 0, 5, 6),
        ] + lit + [
            ("leaf", True, above + [("warn", "w", 0), ("end",)], [("a", 0, 5, 9), ("b", 0, 0, 0)], ["one"]),
            ("leaf", True, above + [("pass", "w", 0), ("end",)], [("a", 0, 5, 9), ("b", 0, 1, 1)], ["one"]),
        ], 3)

    def test_left_out_it_is_64(self):
        enough = cover(grid("abcd", "abcdefghijkl"))
        self.assertEqual((len(splits_of(enough)), len(leaves_of(enough)), len(dark_of(enough))), (64, 65, 0))
        scant = cover(grid("abcde", "abcdefghij"))
        self.assertEqual((len(splits_of(scant)), len(leaves_of(scant)), len(dark_of(scant))), (64, 65, 1))
        self.assertEqual(scant, cover(grid("abcde", "abcdefghij"), 64))
        self.assertEqual(len(dark_of(cover(grid("abcde", "abcdefghij"), 65))), 0)

    def test_up_to_400(self):
        paper = grid("abcdefghijklmnopqrst", "abcdefghijklmnopqrst")
        for most in (0, 1, 63, 65, 399, 400):
            nodes = cover(paper, most)
            self.assertEqual((len(splits_of(nodes)), len(nodes)), (most, 2 * most + 1))
            self.assertNotEqual(dark_of(nodes), [])

    def test_where_leaves_stay_dark_just_so_many_splits_were_made(self):
        for text in rich_texts(60, 61):
            paper = read_paper(text)
            for most in (0, 1, 2, 7, 20):
                nodes = cover(paper, most)
                self.assertEqual(len(nodes), 2 * len(splits_of(nodes)) + 1)
                self.assertTrue(len(splits_of(nodes)) == most or not dark_of(nodes) and len(splits_of(nodes)) < most)


class FixedTest(CoverTest):
    ROWS = ("sheet one", "ask a whole 0 9", "warn w unless a > 4")

    def test_one_rank(self):
        self.check_cover(self.ROWS, [("leaf", True, [("ask", "a", 0), ("warn", "w", 0), ("end",)], [("a", 0, 4, 4)], [])],
                         64, {("a", 0): (4, 4)})

    def test_more_ranks(self):
        self.check_cover(self.ROWS, [("leaf", True, [("ask", "a", 0), ("pass", "w", 0), ("end",)], [("a", 0, 6, 8)], [])],
                         64, {("a", 0): (6, 8)})
        self.check_cover(self.ROWS, [
            ("split", "a", 0, 4, 1, 2),
            ("leaf", True, [("ask", "a", 0), ("warn", "w", 0), ("end",)], [("a", 0, 3, 4)], []),
            ("leaf", True, [("ask", "a", 0), ("pass", "w", 0), ("end",)], [("a", 0, 5, 6)], []),
        ], 64, {("a", 0): (3, 6)})
        self.check_cover(self.ROWS, [("leaf", False, [("ask", "a", 0)], [("a", 0, 3, 6)], [])], 0, {("a", 0): (3, 6)})

    def test_of_a_thing(self):
        log = [("ask", "kids", 0), ("ask", "age", 0), ("warn", "old", 0), ("ask", "age", 1)]
        self.check_cover(KIDS, [
            ("split", "age", 1, 4, 1, 2),
            ("leaf", True, log + [("pass", "old", 1), ("end",)], [("kids", 0, 2, 2), ("age", 0, 7, 7), ("age", 1, 0, 4)], []),
            ("leaf", True, log + [("warn", "old", 1), ("end",)], [("kids", 0, 2, 2), ("age", 0, 7, 7), ("age", 1, 5, 9)], []),
        ], 64, {("kids", 0): (2, 2), ("age", 0): (7, 7), ("age", 2): (1, 1)})

    def test_none_is_like_an_empty_one(self):
        for rows in (self.ROWS, KIDS):
            paper = paper_of(*rows)
            self.assertEqual(cover(paper, 64, None), cover(paper))
            self.assertEqual(cover(paper, 64, {}), cover(paper))
            self.assertEqual(cover(paper, fixed={("nope", 3): (1, 1)}, most=64), cover(paper))


class ThingsTest(CoverTest):
    def test_the_number_of_things_is_unsure(self):
        rows = ("sheet one", "ask kids names 2", "sheet two each kids", "ask a yesno")
        ask, end = [("ask", "kids", 0)], [("end",)]
        self.check_cover(rows, [
            ("split", "kids", 0, 0, 1, 2),
            ("leaf", True, ask + end, [("kids", 0, 0, 0)], []),
            ("split", "kids", 0, 1, 3, 4),
            ("leaf", True, ask + [("ask", "a", 0)] + end, [("kids", 0, 1, 1), ("a", 0, 0, 1)], []),
            ("leaf", True, ask + [("ask", "a", 0), ("ask", "a", 1)] + end,
             [("kids", 0, 2, 2), ("a", 0, 0, 1), ("a", 1, 0, 1)], []),
        ])

    def test_the_question_wasnt_asked(self):
        rows = ("sheet one", "ask go yesno", "ask kids names 1 when go is yes", "sheet two each kids", "ask a yesno")
        self.assertEqual([leaf[2] for leaf in leaves_of(cover(paper_of(*rows)))], [
            [("ask", "go", 0), ("end",)],
            [("ask", "go", 0), ("ask", "kids", 0), ("end",)],
            [("ask", "go", 0), ("ask", "kids", 0), ("ask", "a", 0), ("end",)],
        ])

    def test_splits_at_questions_of_a_thing(self):
        nodes = cover(paper_of(*KIDS), 64, {("kids", 0): (2, 2)})
        ranges = [("age", 0, 0, 4), ("age", 0, 5, 9), ("age", 1, 0, 4), ("age", 1, 5, 9)]
        self.assertEqual(splits_of(nodes), [("split", "age", 0, 4, 1, 2), ("split", "age", 1, 4, 3, 4),
                                            ("split", "age", 1, 4, 5, 6)])
        self.assertEqual([leaf[3] for leaf in leaves_of(nodes)], [
            [("kids", 0, 2, 2), one, other] for one in ranges[:2] for other in ranges[2:]])

    def test_as_many_leaves_as_each_number_of_things_brings(self):
        nodes = cover(paper_of(*KIDS))
        self.assertEqual(len(leaves_of(nodes)), 1 + 2 + 4 + 8)
        self.assertEqual(dark_of(nodes), [])


class SumsTest(CoverTest):
    def test_times_below_0(self):
        rows = ("sheet one", "ask a whole 0 1", "ask b whole 0 2", "warn w unless t < 0", "sum t a - 2 b")
        asks = [("ask", "a", 0), ("ask", "b", 0)]
        warns, passes = asks + [("warn", "w", 0), ("end",)], asks + [("pass", "w", 0), ("end",)]
        self.check_cover(rows, [
            ("split", "a", 0, 0, 1, 2),
            ("split", "b", 0, 1, 3, 4),
            ("split", "b", 0, 1, 5, 6),
            ("split", "b", 0, 0, 7, 8),
            ("leaf", True, passes, [("a", 0, 0, 0), ("b", 0, 2, 2)], []),
            ("split", "b", 0, 0, 9, 10),
            ("leaf", True, passes, [("a", 0, 1, 1), ("b", 0, 2, 2)], []),
            ("leaf", True, warns, [("a", 0, 0, 0), ("b", 0, 0, 0)], []),
            ("leaf", True, passes, [("a", 0, 0, 0), ("b", 0, 1, 1)], []),
            ("leaf", True, warns, [("a", 0, 1, 1), ("b", 0, 0, 0)], []),
            ("leaf", True, passes, [("a", 0, 1, 1), ("b", 0, 1, 1)], []),
        ])

    def test_of_all_things(self):
        rows = ("sheet one", "ask kids names 2", "sheet two each kids", "ask a whole -1 0", "way end when t = 2",
                "sheet three", "ask b yesno", "sum t - a")
        nodes = cover(paper_of(*rows), 64, {("kids", 0): (2, 2)})
        self.assertEqual(splits_of(nodes), [("split", "a", 0, -1, 1, 2), ("split", "a", 1, -1, 3, 4)])
        self.assertEqual([len(leaf[2]) for leaf in leaves_of(nodes)], [5, 4, 5])


def leaf_number(nodes, ranks):
    """The number of the leaf that is come to down from node 0, by ranks of answers."""
    number = 0
    while nodes[number][0] == "split":
        question, k, cut, below, above = nodes[number][1:]
        number = below if ranks[question, k] <= cut else above
    return number


def ranks_in(plain, log):
    """The ranks of the answers in a log, by question and place."""
    return {place[1:]: rank_of(plain.kinds[row[1]], row[3]) for row, place in zip(log, plain.placed(log))
            if row[0] == "ask"}


def lies_in(leaf, ranks):
    return all((question, k) in ranks and low <= ranks[question, k] <= high for question, k, low, high in leaf[3])


SMALL = (
    ("sheet one", "ask a whole -1 1", "ask b yesno when not a = 0", "refuse r unless ( a < 1 or b is no )",
     "way end when a = 0", "sheet two", "ask c pick red green blue", "warn w unless c is green"),
    ("sheet one", "ask kids names 2", "sheet two each kids", "ask a whole 0 2", "ask b yesno when a > 0",
     "refuse r unless not b is yes", "way end when t > 1", "sheet three", "ask c yesno", "sum t 2 a - kids"),
)


def all_books(plain):
    """All books of a small paper; things are called z and y."""
    keys = [(name, thing) for name in plain.kinds for thing in (("z", "y") if plain.again(name) else ("",))]
    answers = [[("z", "y")[:rank] if plain.kinds[key[0]].told() == "names 2" else plain.kinds[key[0]].sample(rank)
                for rank in range(plain.kinds[key[0]].low, plain.kinds[key[0]].high + 1)] for key in keys]
    return [dict(zip(keys, row)) for row in itertools.product(*answers)]


class ManyCoversTest(CoverTest):
    def check_book(self, paper, plain, nodes, book):
        log = straight(paper, book)
        if log[-1][0] == "open":
            return None
        ranks = ranks_in(plain, log)
        number = leaf_number(nodes, ranks)
        self.assertEqual([place for place, node in enumerate(nodes) if node[0] == "leaf" and lies_in(node, ranks)], [number])
        lit, told = nodes[number][1:3]
        self.assertEqual(told, plain.placed(log) if lit else plain.placed(log)[:len(told)])
        return log[-1][0], lit

    def test_all_books_of_small_papers(self):
        for rows in SMALL:
            text = "\n".join(("paper p",) + rows)
            paper, plain = read_paper(text), PlainPaper(text)
            for most, lights in ((0, {False}), (4, {True, False}), (64, {True})):
                nodes = cover(paper, most)
                told = [self.check_book(paper, plain, nodes, book) for book in all_books(plain)]
                self.assertEqual({end for end, _ in told}, {"end", "held"})
                self.assertEqual({lit for _, lit in told}, lights)

    def test_many_papers_and_books(self):
        rng = random.Random(62)
        seen = {}
        for text in rich_texts(120, 63):
            paper, plain = read_paper(text), PlainPaper(text)
            for most in (2, 12, 64):
                nodes = cover(paper, most)
                for _ in range(8):
                    book = made_book(rng, plain, 0.02)
                    with self.subTest(text=text, most=most, book=book):
                        end = self.check_book(paper, plain, nodes, book)
                        seen[end] = seen.get(end, 0) + 1
        self.assertEqual(len(seen), 5)
        self.assertTrue(min(seen.values()) > 19, seen)

    def test_many_papers_and_fixed_ranges(self):
        rng = random.Random(64)
        for text in sound_texts(120, 65) + rich_texts(80, 66):
            paper, plain = read_paper(text), PlainPaper(text)
            with self.subTest(text=text):
                self.assertEqual(cover(paper), plain.cover(64))
                for most in (0, 1, 3, 30):
                    fixed = made_box(rng, plain, rng.choice((0, 0.3, 0.8)))
                    self.assertEqual(cover(paper, most, fixed), plain.cover(most, fixed))

    def test_splits_leave_what_the_leaves_have(self):
        rng = random.Random(67)
        for text in rich_texts(60, 68):
            paper, plain, kinds = read_paper(text), PlainPaper(text), kinds_of(read_paper(text))
            fixed = made_box(rng, plain, 0.8)
            nodes = cover(paper, 40, fixed)
            waiting, numbers = [(0, fixed, [])], []
            while waiting:
                number, box, above = waiting.pop()
                numbers.append(number)
                node = nodes[number]
                with self.subTest(text=text, number=number):
                    if node[0] == "split":
                        key, cut = node[1:3], node[3]
                        low, high = box.get(key, (kinds[key[0]].low, kinds[key[0]].high))
                        self.assertTrue(low <= cut < high)
                        waiting.append((node[4], {**box, key: (low, cut)}, above + [key]))
                        waiting.append((node[5], {**box, key: (cut + 1, high)}, above + [key]))
                    else:
                        asks = [row[1:] for row in node[2] if row[0] == "ask"]
                        self.assertTrue(set(above) <= set(asks))
                        self.assertEqual(node[3], [(*key, *box.get(key, (kinds[key[0]].low, kinds[key[0]].high)))
                                                   for key in asks])
            self.assertEqual(sorted(numbers), list(range(len(nodes))))

    def test_what_is_handed_in_stays_and_what_is_told_is_the_askers_own(self):
        rng = random.Random(69)
        for text in rich_texts(30, 70):
            paper, plain = read_paper(text), PlainPaper(text)
            fixed = made_box(rng, plain, 0.6)
            kept = copy.deepcopy((paper_tree(paper), fixed))
            told = cover(paper, 20, fixed)
            again = copy.deepcopy(told)
            self.assertEqual((paper_tree(paper), fixed), kept)
            other = cover(paper, 20, fixed)
            self.assertEqual(told, again)
            lists = [part for node in leaves_of(other) for part in node[2:]]
            self.assertEqual(len({id(part) for part in lists}), len(lists))
            for part in lists:
                part.append("nope")
            other.clear()
            fixed.clear()
            self.assertEqual(told, again)
            self.assertEqual(cover(paper, 20, kept[1]), again)


if __name__ == "__main__":
    unittest.main()
