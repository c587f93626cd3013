import copy
import itertools
import random
import unittest

from askpaper.errors import AskError, NoAnswer, NoLeft, NotCome, NotYet, Nowhere
from askpaper.going import straight, sums_of
from askpaper.hands import Hand, come_again
from askpaper.reading import read_paper
from making import made_answer, rich_texts, sound_texts
from plain import PlainPaper
from things import NO_TEXTS, paper_of, paper_tree

ROWS = ("sheet home", "ask well yesno", "ask kids names 3 when well is yes", "refuse few unless ( well is no or kids > 0 )",
        "sheet child each kids", "ask age whole 0 9", "ask cost money -9.00 9.00 when age > 4", "sheet last",
        "ask hue pick red green", "sum total 2 age + kids")
QUESTIONLESS = ("sheet one", "warn w unless t > 3", "sum t 3")


def facts(hand):
    """All that a hand tells."""
    return (hand.at(), hand.counts(), hand.aside(), hand.state(), hand.sums(), hand.left())


class HandsTest(unittest.TestCase):
    def hand(self, *texts, rows=ROWS):
        """A hand that gave these answers one behind the other."""
        hand = Hand(paper_of(*rows))
        for text in texts:
            self.assertIsNone(hand.answer(text))
        return hand

    def check_refused(self, hand, error, deed, *things):
        before = facts(hand)
        with self.assertRaises(AskError) as caught:
            deed(*things)
        self.assertIs(type(caught.exception), error)
        self.assertEqual(facts(hand), before)


class FingerTest(HandsTest):
    def test_at_first(self):
        hand = self.hand()
        self.assertEqual(hand.at(), ("well", ""))
        self.assertEqual((hand.counts(), hand.aside(), hand.state()), ([], [], ("open", "well", "")))
        self.assertEqual(hand.sums(), [("total", 0)])

    def test_without_questions(self):
        hand = self.hand(rows=QUESTIONLESS)
        self.assertEqual(facts(hand), (None, [], [], ("end",), [("t", 3)], "at -"))
        for error, deed, things in ((Nowhere, hand.answer, ("yes",)), (Nowhere, hand.on, ()), (Nowhere, hand.back, ()),
                                    (NotCome, hand.jump, ("w",)), (NotCome, hand.jump, ("", ""))):
            self.check_refused(hand, error, deed, *things)

    def test_a_first_question_that_isnt_the_papers_first(self):
        hand = self.hand(rows=("sheet one", "ask a whole 0 9 when t > 3", "ask b yesno", "sum t 3"))
        self.assertEqual(hand.at(), ("b", ""))

    def test_held_ahead_of_all_questions(self):
        hand = self.hand(rows=("sheet one", "refuse r unless t > 3", "ask b yesno", "sum t 3"))
        self.assertEqual((hand.at(), hand.state()), (None, ("held", "r", "")))


class AnswerTest(HandsTest):
    def test_from_question_to_question(self):
        hand = self.hand()
        places = []
        for text in ("yes", "zoe ann", "5", "-0.50", "4", "green"):
            hand.answer(text)
            places.append(hand.at())
        self.assertEqual(places, [("kids", ""), ("age", "zoe"), ("cost", "zoe"), ("age", "ann"), ("hue", ""), None])
        self.assertEqual(hand.counts(), [("well", "", True), ("kids", "", ("zoe", "ann")), ("age", "zoe", 5),
                                         ("cost", "zoe", -50), ("age", "ann", 4), ("hue", "", "green")])
        self.assertEqual((hand.aside(), hand.state(), hand.sums()), ([], ("end",), [("total", 20)]))

    def test_blanks_around_are_left_out(self):
        self.assertEqual(self.hand("  yes ").counts(), [("well", "", True)])

    def test_refused_behind_all_questions(self):
        for texts in (("no", "red"), ("yes", "-")):
            hand = self.hand(*texts)
            self.check_refused(hand, Nowhere, hand.answer, "yes")
            self.check_refused(hand, Nowhere, hand.answer, "nope")

    def test_refused_where_it_is_no_answer(self):
        for texts, wrong in (((), "maybe"), ((), ""), ((), "Yes"), (("yes",), "ann ann"), (("yes",), "a b c d"),
                             (("yes", "ann"), "10"), (("yes", "ann"), "yes"), (("no",), "blue"), (("yes",), "ann  bob")):
            hand = self.hand(*texts)
            self.check_refused(hand, NoAnswer, hand.answer, wrong)
        for thing in NO_TEXTS:
            hand = self.hand()
            self.check_refused(hand, NoAnswer, hand.answer, thing)

    def test_a_refused_answer_leaves_the_one_that_is_there(self):
        hand = self.hand("yes")
        hand.back()
        self.check_refused(hand, NoAnswer, hand.answer, "perhaps")
        self.assertEqual(hand.counts(), [("well", "", True)])

    def test_in_the_stead_of_the_one_there(self):
        hand = self.hand("yes", "ann", "3", "red")
        hand.jump("age", "ann")
        hand.answer("4")
        self.assertEqual(hand.at(), ("hue", ""))
        self.assertEqual(hand.counts(), [("well", "", True), ("kids", "", ("ann",)), ("age", "ann", 4), ("hue", "", "red")])
        self.assertEqual(hand.aside(), [])

    def test_it_leads_to_the_question_behind_in_the_going_as_it_is_then(self):
        hand = self.hand("yes", "ann bob", "3", "3", "red")
        hand.jump("age", "ann")
        hand.answer("7")
        self.assertEqual((hand.at(), hand.state()), (("cost", "ann"), ("open", "cost", "ann")))
        hand.answer("1.00")
        self.assertEqual((hand.at(), hand.state()), (("age", "bob"), ("end",)))

    def test_held(self):
        hand = self.hand("yes", "-")
        self.assertEqual((hand.at(), hand.state()), (None, ("held", "few", "")))
        hand.back()
        self.assertEqual(hand.at(), ("kids", ""))
        hand.answer("ann")
        self.assertEqual(hand.at(), ("age", "ann"))


class OnAndBackTest(HandsTest):
    def test_on(self):
        hand = self.hand("no", "red")
        hand.jump("well")
        self.assertIsNone(hand.on())
        self.assertEqual(hand.at(), ("hue", ""))
        hand.on()
        self.assertIsNone(hand.at())
        self.check_refused(hand, Nowhere, hand.on)

    def test_on_where_the_going_is_held(self):
        hand = self.hand("yes", "-")
        hand.back()
        hand.on()
        self.assertIsNone(hand.at())

    def test_not_yet_at_the_open_question(self):
        for texts in ((), ("yes",), ("yes", "ann"), ("no",)):
            hand = self.hand(*texts)
            self.check_refused(hand, NotYet, hand.on)
        hand = self.hand("yes")
        hand.back()
        hand.on()
        self.check_refused(hand, NotYet, hand.on)

    def test_back(self):
        hand = self.hand("yes", "ann", "6")
        places = []
        for _ in range(3):
            self.assertIsNone(hand.back())
            places.append(hand.at())
        self.assertEqual(places, [("age", "ann"), ("kids", ""), ("well", "")])
        self.check_refused(hand, Nowhere, hand.back)
        self.assertEqual(len(hand.counts()), 3)

    def test_back_from_behind_all(self):
        hand = self.hand("no", "red")
        hand.back()
        self.assertEqual(hand.at(), ("hue", ""))

    def test_back_at_the_first_question_while_it_is_open(self):
        hand = self.hand()
        self.check_refused(hand, Nowhere, hand.back)


class JumpTest(HandsTest):
    def test_to_each_question_of_the_going(self):
        hand = self.hand("yes", "ann bob", "7", "0.00")
        for place in (("age", "bob"), ("well", ""), ("cost", "ann"), ("age", "ann"), ("kids", "")):
            self.assertIsNone(hand.jump(*place))
            self.assertEqual(hand.at(), place)
        hand.jump("well")
        self.assertEqual(hand.at(), ("well", ""))
        hand.jump(question="age", thing="bob")
        self.assertEqual(hand.at(), ("age", "bob"))

    def test_from_behind_all(self):
        hand = self.hand("no", "red")
        hand.jump("well")
        self.assertEqual(hand.at(), ("well", ""))

    def test_to_what_isnt_of_the_going(self):
        hand = self.hand("yes", "ann bob", "3")
        for place in (("hue",), ("hue", ""), ("age",), ("age", ""), ("age", "cid"), ("cost", "ann"), ("well", "ann"),
                      ("kids", "ann"), ("nope", ""), ("few", ""), ("total", ""), ("child", "ann"), ("", ""), ("-", ""),
                      ("well ", ""), ("Well", ""), ("\n", "~ ~")):
            self.check_refused(hand, NotCome, hand.jump, *place)

    def test_to_what_is_kept_aside(self):
        hand = self.hand("yes", "ann", "3", "red")
        hand.jump("well")
        hand.answer("no")
        self.check_refused(hand, NotCome, hand.jump, "age", "ann")
        self.check_refused(hand, NotCome, hand.jump, "kids")


class AsideTest(HandsTest):
    def test_an_answer_that_takes_a_question_away_and_one_that_brings_it_back(self):
        hand = self.hand("yes", "ann", "7", "2.00", "red")
        hand.jump("age", "ann")
        hand.answer("3")
        self.assertEqual((hand.at(), hand.state()), (("hue", ""), ("end",)))
        self.assertEqual(hand.aside(), [("cost", "ann", 200)])
        self.assertEqual(hand.counts(), [("well", "", True), ("kids", "", ("ann",)), ("age", "ann", 3), ("hue", "", "red")])
        hand.jump("age", "ann")
        hand.answer("8")
        self.assertEqual((hand.at(), hand.aside(), hand.state()), (("cost", "ann"), [], ("end",)))
        self.assertIn(("cost", "ann", 200), hand.counts())

    def test_an_answer_that_takes_a_thing_away_and_one_that_brings_it_back(self):
        hand = self.hand("yes", "bob ann", "7", "2.00", "3", "red")
        hand.jump("kids")
        hand.answer("ann")
        self.assertEqual(hand.at(), ("age", "ann"))
        self.assertEqual(hand.aside(), [("age", "bob", 7), ("cost", "bob", 200)])
        self.assertEqual(hand.sums(), [("total", 7)])
        hand.jump("kids")
        hand.answer("ann bob cid")
        self.assertEqual((hand.aside(), hand.state()), ([("hue", "", "red")], ("open", "age", "cid")))
        self.assertEqual(hand.counts()[2:], [("age", "ann", 3), ("age", "bob", 7), ("cost", "bob", 200)])

    def test_what_stands_behind_the_open_question_is_aside(self):
        hand = self.hand("no", "red")
        hand.jump("well")
        hand.answer("yes")
        self.assertEqual((hand.at(), hand.state()), (("kids", ""), ("open", "kids", "")))
        self.assertEqual((hand.counts(), hand.aside()), ([("well", "", True)], [("hue", "", "red")]))

    def test_what_stands_behind_a_firm_check_is_aside(self):
        hand = self.hand("yes", "ann", "3", "red")
        hand.jump("kids")
        hand.answer("-")
        self.assertEqual(hand.counts(), [("well", "", True), ("kids", "", ())])
        self.assertEqual(hand.aside(), [("age", "ann", 3), ("hue", "", "red")])

    def test_sorted_by_question_then_by_thing(self):
        hand = self.hand("yes", "zoe bob ann", "7", "2.00", "8", "3.00", "1", "red")
        hand.jump("well")
        hand.answer("no")
        self.assertEqual(hand.aside(), [("age", "ann", 1), ("age", "bob", 8), ("age", "zoe", 7), ("cost", "bob", 300),
                                        ("cost", "zoe", 200), ("kids", "", ("zoe", "bob", "ann"))])


class LeftTest(HandsTest):
    def test_what_is_left(self):
        self.assertEqual(self.hand().left(), "at well")
        self.assertEqual(self.hand("yes", "zoe ann", "7").left(), "at cost zoe\nage zoe = 7\nkids = zoe ann\nwell = yes")
        self.assertEqual(self.hand("no", "red").left(), "at -\nhue = red\nwell = no")
        self.assertEqual(self.hand("yes", "-").left(), "at -\nkids = -\nwell = yes")

    def test_what_is_kept_aside_is_left_too(self):
        hand = self.hand("yes", "zoe bob", "7", "-2.05", "4", "red")
        hand.jump("well")
        hand.answer("no")
        self.assertEqual(hand.left(), "at hue\nage bob = 4\nage zoe = 7\ncost zoe = -2.05\nhue = red\n"
                                      "kids = zoe bob\nwell = no")

    def test_sorted_by_question_and_not_by_the_row_of_text(self):
        hand = self.hand("x", "1", "2", rows=("sheet s", "ask ab names 2", "sheet t each ab", "ask a whole 0 9", "sheet u",
                                              "ask b whole 0 9"))
        self.assertEqual(hand.left(), "at -\na x = 1\nab = x\nb = 2")


class ComeAgainTest(HandsTest):
    def come(self, text, rows=ROWS):
        return come_again(paper_of(*rows), text)

    def check_no_left(self, text, row, rows=ROWS):
        with self.subTest(text=text):
            with self.assertRaises(NoLeft) as caught:
                self.come(text, rows)
            self.assertEqual(caught.exception.row, row)
            self.assertIs(type(caught.exception.row), int)

    def test_it_is_the_same_hand(self):
        hand = self.hand("yes", "zoe bob", "7", "-2.05", "4", "red")
        hand.jump("kids")
        hand.answer("bob")
        for place in hand.counts():
            hand.jump(*place[:2])
            again = self.come(hand.left())
            self.assertEqual(facts(again), facts(hand))
            self.assertIs(type(again), Hand)
            again.answer(hand.left().split(f"{' '.join(place[:2]).strip()} = ")[1].split("\n")[0])
            self.assertEqual(again.counts(), hand.counts())

    def test_answers_in_any_order(self):
        rows = ["age zoe = 7", "cost zoe = 0.00", "hue = red", "kids = zoe", "well = yes"]
        told = {repr(facts(self.come("\n".join(["at age zoe", *order])))) for order in itertools.permutations(rows)}
        self.assertEqual(len(told), 1)
        self.assertIn("at age zoe\\nage zoe = 7\\ncost zoe = 0.00\\nhue = red", told.pop())

    def test_what_is_no_text(self):
        for thing in NO_TEXTS:
            self.check_no_left(thing, 0)

    def test_the_fingers_row(self):
        for row in ("", "at", "at ", "at  well", "at well ", " at well", "at well ann bob", "on well", "well", "at Well",
                    "at end", "at well end", "at - -", "at well -", "at - well", "at --", "at 7", "At well", "at\twell"):
            self.check_no_left(row, 0)
            self.check_no_left(row + "\nnope", 0)

    def test_rows_that_are_none(self):
        for row in ("", " ", "well", "well =", "well = ", "well yes", "well=yes", "well = maybe", "well = yes ",
                    "well =  yes", " well = yes", "well  = yes", "well = yes = yes", "= yes", " = yes", "at well",
                    "nope = yes", "few = yes", "total = 3", "home = 1", "p = 1", "end = yes",
                    "well ann = yes", "hue ann = red", "kids ann = bob", "kids = ann ann", "kids = ann bob cid dan",
                    "kids = ann  bob", "kids = ", "kids = ann end", "kids =  -",
                    "age = 3", "age  = 3", "age ann bob = 3", "age Ann = 3", "age end = 3", "age - = 3", "age ann = 10",
                    "age ann = 03", "age ann = -0", "age ann = yes", "age ann = 3\t", "age zoe ann = 3", "age 3 = 3",
                    "cost ann = 2", "cost ann = 2.0", "cost ann = 9.01", "cost ann = 02.00", "hue = blue", "hue = 0",
                    "age abcdefghijklm = 3", "WELL = yes", "well = YES"):
            self.check_no_left(f"at well\n{row}", 1)
            self.check_no_left(f"at kids\nwell = yes\n{row}\nnope", 2)
            self.check_no_left(f"at nope\nwell = yes\nkids = ann\n{row}", 3)

    def test_a_question_and_thing_that_a_row_ahead_has(self):
        self.check_no_left("at -\nwell = no\nhue = red\nwell = no", 3)
        self.check_no_left("at -\nwell = no\nhue = red\nage ann = 3\nage bob = 3\nage ann = 4\nnope", 5)
        self.assertEqual(self.come("at -\nwell = no\nhue = red\nage ann = 3\nage bob = 3").aside(),
                         [("age", "ann", 3), ("age", "bob", 3)])

    def test_a_finger_that_is_no_question_of_the_going(self):
        for finger in ("nope", "well ann", "age", "age zoe", "cost ann", "few", "total", "hue", "kids ann"):
            self.check_no_left(f"at {finger}\nwell = yes\nkids = ann\nage bob = 3", 0)
        self.assertEqual(self.come("at age ann\nwell = yes\nkids = ann\nage bob = 3").at(), ("age", "ann"))

    def test_a_finger_at_none(self):
        self.check_no_left("at -", 0)
        self.check_no_left("at -\nwell = no", 0)
        self.assertIsNone(self.come("at -\nwell = no\nhue = green").at())
        self.assertEqual(self.come("at -\nwell = yes\nkids = -").state(), ("held", "few", ""))
        self.assertEqual(facts(self.come("at -", QUESTIONLESS)), facts(self.hand(rows=QUESTIONLESS)))
        self.check_no_left("at w", 0, QUESTIONLESS)

    def test_the_first_row_that_is_none_is_told_ahead_of_such_a_finger(self):
        self.check_no_left("at -\nwell = no\nwell = yes", 2)
        self.check_no_left("at nope\nnope", 1)

    def test_a_question_that_is_called_like_the_finger(self):
        rows = ("sheet s", "ask at names 2", "sheet t each at", "ask q yesno")
        hand = self.hand("at q", "yes", rows=rows)
        self.assertEqual(hand.left(), "at q q\nat = at q\nq at = yes")
        self.assertEqual(facts(self.come(hand.left(), rows)), facts(hand))

    def test_great_answers(self):
        rows = ("sheet s", f"ask a whole -{'9' * 60} {'9' * 60}", f"ask b money 0.00 {'9' * 58}.99")
        hand = self.hand("-" + "9" * 60, "9" * 58 + ".99", rows=rows)
        self.assertEqual(facts(self.come(hand.left(), rows)), facts(hand))


class PlainHand:
    """A second telling of the hand: the last answers taken, and where in its going it is."""

    def __init__(self, text):
        self.plain = PlainPaper(text)
        self.taken = {}
        self.finger = (self.places() + [None])[0]

    def log(self):
        return self.plain.straight(self.taken)

    def places(self):
        return [row[1:3] for row in self.log() if row[0] in ("ask", "open")]

    def step(self, by):
        stops = self.places() + [None]
        self.finger = stops[stops.index(self.finger) + by]

    def answer(self, answer):
        self.taken[self.finger] = answer
        self.step(1)

    def facts(self):
        log = self.log()
        counts = [row[1:] for row in log if row[0] == "ask"]
        aside = [(*key, self.taken[key]) for key in self.taken if (*key, self.taken[key]) not in counts]
        return (self.finger, counts, sorted(aside, key=lambda row: row[:2]), log[-1])


class ManyDeedsTest(HandsTest):
    def do(self, rng, hand, other):
        """One deed of the hand, and what it should come to; told is its name."""
        deed = rng.choice(("answer", "answer", "answer", "answer", "on", "back", "jump", "jump", "wrong"))
        state = other.log()[-1]
        if deed == "answer" and other.finger is not None:
            kind = other.plain.kinds[other.finger[0]]
            answer = made_answer(rng, kind)
            hand.answer(kind.shown(answer))
            other.answer(answer)
        elif deed == "wrong":
            self.check_refused(hand, Nowhere if other.finger is None else NoAnswer, hand.answer, "?")
        elif deed == "on" and other.finger is not None and other.finger != state[1:]:
            hand.on()
            other.step(1)
        elif deed == "on" or deed == "answer":
            self.check_refused(hand, Nowhere if other.finger is None else NotYet, hand.on)
        elif deed == "back" and (other.places() + [None])[0] != other.finger:
            hand.back()
            other.step(-1)
        elif deed == "back":
            self.check_refused(hand, Nowhere, hand.back)
        else:
            return self.do_jump(rng, hand, other)
        return deed

    def do_jump(self, rng, hand, other):
        places = [(name, thing) for name in other.plain.kinds for thing in ("", "a", "b")] + [("nope", "")]
        if rng.random() < 0.7:
            places = other.places() or places
        place = rng.choice(places)
        if place in other.places():
            hand.jump(*place)
            other.finger = place
            return "jump"
        self.check_refused(hand, NotCome, hand.jump, *place)
        return "no jump"

    def test_behind_each_deed_the_answers_count_of_one_straight_going(self):
        rng = random.Random(31)
        done = {}
        asides = 0
        for text in sound_texts(50, 35) + rich_texts(120, 32):
            paper = read_paper(text)
            hand, other = Hand(paper), PlainHand(text)
            for _ in range(25):
                deed = self.do(rng, hand, other)
                done[deed] = done.get(deed, 0) + 1
                with self.subTest(text=text, taken=other.taken, deed=deed):
                    told = facts(hand)
                    self.assertEqual(told[:4], other.facts())
                    self.assertEqual(told[4], sums_of(paper, straight(paper, other.taken)))
                    self.assertEqual(facts(come_again(paper, told[5])), told)
                    asides += len(told[2]) > 0
                    if rng.random() < 0.1:
                        hand = come_again(paper, told[5])
        self.assertEqual(len(done), 6)
        self.assertTrue(min(done.values()) > 99 and asides > 99, (done, asides))

    def test_what_is_told_is_the_askers_own_and_the_paper_stays(self):
        rng = random.Random(33)
        for text in rich_texts(40, 34):
            paper = read_paper(text)
            hand, other = Hand(paper), PlainHand(text)
            before = copy.deepcopy(paper_tree(paper))
            for _ in range(12):
                told = facts(hand)
                kept = copy.deepcopy(told)
                self.do(rng, hand, other)
                self.assertEqual(told, kept)
                again = facts(hand)
                for answers in (hand.counts(), hand.aside(), hand.sums()):
                    answers.append("nope")
                    answers.reverse()
                self.assertEqual(facts(hand), again)
            self.assertEqual(paper_tree(paper), before)

    def test_two_hands_of_one_paper_dont_meet(self):
        paper = paper_of(*ROWS)
        one, other = Hand(paper), Hand(paper)
        one.answer("yes")
        self.assertEqual(other.counts(), [])
        again = come_again(paper, one.left())
        again.answer("ann")
        self.assertEqual((one.counts(), one.at()), ([("well", "", True)], ("kids", "")))


if __name__ == "__main__":
    unittest.main()
