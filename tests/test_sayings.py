import itertools
import re
import unittest

from askpaper.errors import NoSaying, WrongKind
from askpaper.kinds import Money, Names, Pick, Whole, YesNo
from askpaper.sayings import Both, Compare, Either, Is, Not, Saying, read_saying
from things import NO_NAMES, NO_TEXTS, nested, saying_tree

KINDS = {
    "well": YesNo(), "age": Whole(-5, 120), "cost": Money(0, 1205), "hue": Pick(["red", "green", "no"]),
    "kids": Names(3),
}

WRITTEN = (
    ("hue is red", Is("hue", "red")),
    ("well is yes", Is("well", "yes")),
    ("yes is no", Is("yes", "no")),
    ("age < 3", Compare("age", "<", 3)),
    ("age = 0", Compare("age", "=", 0)),
    ("age > -12", Compare("age", ">", -12)),
    ("age < " + "9" * 60, Compare("age", "<", 10 ** 60 - 1)),
    ("age > -" + "9" * 60, Compare("age", ">", 1 - 10 ** 60)),
    ("not well is yes", Not(Is("well", "yes"))),
    ("not not age = 1", Not(Not(Compare("age", "=", 1)))),
    ("( a is b and c < 4 )", Both(Is("a", "b"), Compare("c", "<", 4))),
    ("( a is b or c < 4 )", Either(Is("a", "b"), Compare("c", "<", 4))),
    ("not ( a is b or not c < 4 )", Not(Either(Is("a", "b"), Not(Compare("c", "<", 4))))),
    ("( ( a is b and a is c ) or ( a is d and not a is e ) )",
     Either(Both(Is("a", "b"), Is("a", "c")), Both(Is("a", "d"), Not(Is("a", "e"))))),
    ("( a is b and ( a is c or ( a is d and a is e ) ) )",
     Both(Is("a", "b"), Either(Is("a", "c"), Both(Is("a", "d"), Is("a", "e"))))),
)


def left_deep(depth):
    text = "a is b"
    for step in range(depth - 1):
        text = f"( {text} and c < {step} )" if step % 2 else f"( {text} or c > {step} )"
    return text


def right_deep(depth):
    text = "a is b"
    for step in range(depth - 1):
        text = f"( c < {step} and {text} )" if step % 2 else f"( c > {step} or {text} )"
    return text


def writes_saying(words):
    """Whether these words write a saying (of any depth): each one is put together to the sign S, step by step."""
    text = " " + "  ".join(words) + " "
    text = re.sub(" [a-z]  is  [a-z] | [a-z]  [<=>]  -?[0-9] ", " S ", text)
    before = None
    while text != before:
        before = text
        text = re.sub(" not  S | [(]  S  (and|or)  S  [)] ", " S ", text)
    return text == " S "


class ReadTest(unittest.TestCase):
    def check_refused(self, thing):
        with self.subTest(thing=thing):
            with self.assertRaises(NoSaying):
                read_saying(thing)

    def check_read(self, text):
        saying = read_saying(text)
        self.assertEqual(saying.shown(), text)
        return saying

    def test_written_and_read(self):
        for text, saying in WRITTEN:
            with self.subTest(text=text):
                self.assertEqual(saying.shown(), text)
                self.assertEqual(saying_tree(self.check_read(text)), saying_tree(saying))

    def test_places_are_none_before_a_saying_is_settled(self):
        self.assertIsNone(Is("a", "b").place)
        self.assertIsNone(read_saying("a is b").place)

    def test_classes_and_arguments(self):
        for made in (Is, Compare, Not, Both, Either):
            self.assertTrue(issubclass(made, Saying))
        self.assertIsInstance(Saying(), Saying)
        atom = Is(name="a", word="b", place=2)
        other = Compare(name="c", how=">", number=4)
        self.assertEqual(saying_tree(atom), ("is", "a", "b", 2))
        self.assertEqual(saying_tree(other), ("compare", "c", ">", 4))
        self.assertIs(Not(test=atom).test, atom)
        for made in (Both, Either):
            self.assertIs(made(one=atom, other=other).one, atom)
            self.assertIs(made(one=atom, other=other).other, other)
        self.assertEqual(read_saying(text="a is b").shown(), "a is b")
        self.assertEqual(other.settled(kinds={}).shown(), "c > 4")
        self.assertIs(other.holds(look=lambda name: 5), True)
        self.assertIs(other.sure(look=lambda name: (5, 6)), True)
        self.assertIsNone(other.first_open(look=lambda name: (5, 6)))

    def test_eight_deep_and_nine(self):
        for made in (left_deep, right_deep, lambda depth: "not " * (depth - 1) + "a is b"):
            for depth in range(1, 9):
                self.check_read(made(depth))
            for depth in (9, 10, 30):
                self.check_refused(made(depth))
        self.check_read("( not not not not not not a is b and c < 1 )")
        self.check_refused("( not not not not not not not a is b and c < 1 )")
        self.check_refused("( c < 1 or not not not not not not not a is b )")
        self.check_refused("not " + left_deep(8))

    def test_much_too_deep(self):
        for text in ("not " * 2400 + "a is b", "( " * 4900 + "a is b", "not ( " * 1600 + "a is b", "( " * 5000,
                     left_deep(500), right_deep(500)):
            self.check_refused(text)

    def test_sixteen_atoms_and_seventeen(self):
        atoms = [f"a < {place}" for place in range(17)]
        for word in ("and", "or"):
            for count in range(1, 17):
                saying = self.check_read(nested(atoms[:count], word))
                self.assertEqual([atom.shown() for atom in saying.atoms()], atoms[:count])
            self.check_refused(nested(atoms, word))
            self.check_refused(nested(atoms * 7, word))

    def test_every_short_text(self):
        words = ("a", "is", "<", "3", "not", "(", ")", "and", "")
        for length in range(1, 6):
            for chosen in itertools.product(words, repeat=length):
                text = " ".join(chosen)
                if writes_saying(chosen):
                    self.check_read(text)
                else:
                    with self.assertRaises(NoSaying, msg=text):
                        read_saying(text)

    def test_one_word_other(self):
        words = ("a", "is", "=", "3", "not", "(", ")", "and", "or", "end", "each", "", "-", "( a")
        for text, saying in WRITTEN:
            if len(text) < 60:
                good = text.split(" ")
                for place in range(len(good) + 1):
                    for word in words + (None,):
                        for skipped in (0, 1):
                            changed = good[:place] + ([] if word is None else [word]) + good[place + skipped:]
                            self.check_like_oracle(" ".join(changed))

    def check_like_oracle(self, text):
        # The oracle knows names and numbers of one sign alone.
        words = [word[0] if len(word) > 1 and re.fullmatch("[a-z]+|[0-9]+", word)
                 and word not in NO_NAMES else word for word in text.split(" ")]
        words = ["-1" if re.fullmatch("-[1-9][0-9]*", word) else word for word in words]
        if writes_saying(words):
            self.check_read(text)
        else:
            with self.assertRaises(NoSaying, msg=text):
                read_saying(text)

    def test_names_and_numbers_that_are_none(self):
        for text in ("A is b", "a is B", "abcdefghijklm is b", "a is abcdefghijklm", "a1 < 3", "a < a", "a is 3",
                     "3 is a", "3 < a", "a < 03", "a < -0", "a < +3", "a < 3.50", "a < - 3", "a < 1" + "0" * 60,
                     "a > -1" + "0" * 60, "a <= 3", "a == 3", "a != 3", "a >= 3", "a < ", "a < b", "a Is b", " is b",
                     "a is ", "a", "a is", "is", "is b", "a is b c", "a = 3 4", "yes", "True"):
            self.check_refused(text)
        for word in NO_NAMES:
            for text in (word, word + " is b", "a is " + word, word + " < 3", "a < " + word):
                self.check_refused(text)

    def test_brackets_and_words(self):
        for text in ("( a is b )", "a is b and c is d", "( a is b and c is d", "a is b and c is d )",
                     "( a is b but c is d )", "( a is b and c is d and e is f )", "( a is b and c is d ) )",
                     "( ( a is b and c is d ) )", "( and c is d )", "( a is b and )", "( )", "(", ")", "not", "not not",
                     "not )", "a is not b", "( a is b or c is d ]", "[ a is b or c is d ]", "(a is b or c is d)",
                     "( a is b, c is d )", "( a is b AND c is d )", "( a is b is c is d )", "( a is b unless c is d )"):
            self.check_refused(text)

    def test_blanks_and_other_signs(self):
        for text in ("", " ", "  ", " a is b", "a is b ", "a  is b", "a is  b", "not  a is b", "a\tis b", "a is\tb",
                     "a is b\n", "\na is b", "a\nis\nb", "a<3", "a <3", "a< 3", "(  a is b and c is d )",
                     "( a is b and c is d  )", "( a is b  and c is d )", "( a is b and c is d ) ", "\t", "\n"):
            self.check_refused(text)

    def test_what_is_no_text(self):
        for thing in NO_TEXTS + (Is("a", "b"), b"a is b", ["a", "is", "b"], ("a", "is", "b")):
            self.check_refused(thing)


class AtomsTest(unittest.TestCase):
    def test_in_the_order_of_writing(self):
        for text, atoms in (
            ("a is b", ["a is b"]),
            ("not a < 3", ["a < 3"]),
            ("( ( a is b or not c < 1 ) and ( c < 1 or ( d > 2 and a is b ) ) )",
             ["a is b", "c < 1", "c < 1", "d > 2", "a is b"]),
        ):
            got = read_saying(text).atoms()
            self.assertIs(type(got), list)
            self.assertEqual([atom.shown() for atom in got], atoms)
            for atom in got:
                self.assertIsInstance(atom, (Is, Compare))

    def test_lists_are_the_askers_own(self):
        for text in ("a is b", "a < 3", "not a is b", "( a is b and c < 3 )", "( a is b or c < 3 )"):
            saying = read_saying(text)
            first = saying.atoms()
            second = saying.atoms()
            count = len(first)
            first.append("more")
            first[0] = None
            self.assertEqual(len(second), count)
            self.assertEqual([atom.shown() for atom in second], [atom.shown() for atom in saying.atoms()])
            second.clear()
            self.assertEqual(len(saying.atoms()), count)
            self.assertEqual(saying.shown(), text)


class SettledTest(unittest.TestCase):
    def check_settled(self, text, tree):
        saying = read_saying(text)
        before = saying_tree(saying)
        kinds = dict(KINDS)
        with self.subTest(text=text):
            settled = saying.settled(kinds)
            self.assertEqual(saying_tree(settled), tree)
            self.assertEqual(settled.shown(), text)
            self.assertEqual(saying_tree(saying), before)
            self.assertEqual(kinds, KINDS)
            self.assertEqual(list(kinds), list(KINDS))
            self.assertEqual(saying_tree(settled.settled(kinds)), tree)

    def check_refused(self, text, name):
        saying = read_saying(text)
        before = saying_tree(saying)
        with self.subTest(text=text):
            with self.assertRaises(WrongKind) as caught:
                saying.settled(dict(KINDS))
            self.assertEqual(caught.exception.name, name)
            self.assertEqual(saying_tree(saying), before)

    def test_an_is_knows_its_rank(self):
        self.check_settled("well is yes", ("is", "well", "yes", 1))
        self.check_settled("well is no", ("is", "well", "no", 0))
        self.check_settled("hue is red", ("is", "hue", "red", 0))
        self.check_settled("hue is green", ("is", "hue", "green", 1))
        self.check_settled("hue is no", ("is", "hue", "no", 2))

    def test_a_compare_of_what_has_numbers(self):
        for name in ("age", "cost", "kids"):
            for how in "<=>":
                self.check_settled(f"{name} {how} 350", ("compare", name, how, 350))

    def test_a_compare_of_a_name_that_is_not_among_the_kinds(self):
        self.check_settled("total > 350", ("compare", "total", ">", 350))
        self.assertEqual(Compare("age", "<", 3).settled({}).shown(), "age < 3")

    def test_sayings_of_sayings(self):
        well = ("is", "well", "yes", 1)
        total = ("compare", "total", "<", 3)
        green = ("is", "hue", "green", 1)
        self.check_settled("not well is yes", ("not", well))
        self.check_settled("( well is yes and total < 3 )", ("both", well, total))
        self.check_settled("( well is yes or total < 3 )", ("either", well, total))
        self.check_settled("not ( ( well is yes and total < 3 ) or not hue is green )",
                           ("not", ("either", ("both", well, total), ("not", green))))

    def test_an_is_that_does_not_suit(self):
        for text in ("well is red", "well is true", "hue is yes", "hue is blue", "hue is re", "age is yes", "age is red",
                     "cost is no", "kids is yes", "kids is ann", "total is yes", "total is red", "other is no"):
            self.check_refused(text, text.split(" ")[0])
            self.check_refused("not " + text, text.split(" ")[0])
        with self.assertRaises(WrongKind):
            Is("well", "yes").settled({})

    def test_a_compare_that_does_not_suit(self):
        for how in "<=>":
            self.check_refused(f"well {how} 1", "well")
            self.check_refused(f"hue {how} 0", "hue")

    def test_the_first_atom_that_does_not_suit(self):
        for word in ("and", "or"):
            self.check_refused(f"( well is red {word} hue < 3 )", "well")
            self.check_refused(f"( hue < 3 {word} well is red )", "hue")
            self.check_refused(f"( age < 3 {word} well is red )", "well")
            self.check_refused(f"( ( age < 3 {word} other is yes ) {word} well is red )", "other")
            self.check_refused(f"( not ( well is no {word} cost is no ) {word} ( well < 3 {word} hue < 1 ) )", "cost")

    def test_what_is_settled_is_a_saying_of_its_own(self):
        for text in ("well is yes", "age < 3", "not age < 3", "( age < 3 and well is yes )", "( age < 3 or well is yes )"):
            saying = read_saying(text)
            settled = saying.settled(KINDS)
            self.assertIsNot(settled, saying)
            for atom in settled.atoms():
                self.assertFalse(any(atom is other for other in saying.atoms()))

    def test_other_kinds_settle_it_otherwise(self):
        saying = read_saying("hue is red")
        first = saying.settled(KINDS)
        second = saying.settled({"hue": Pick(["blue", "red"])})
        self.assertEqual((first.place, second.place, saying.place), (0, 1, None))
        self.assertEqual(first.settled({"hue": Pick(["a", "b", "red"])}).place, 2)
        self.assertEqual(first.place, 0)


class HoldsTest(unittest.TestCase):
    def check_holds(self, text, ranks, told):
        with self.subTest(text=text, ranks=ranks):
            self.assertIs(read_saying(text).settled(KINDS).holds(ranks.get), told)

    def test_an_is(self):
        for word, place in (("red", 0), ("green", 1), ("no", 2)):
            for rank in range(3):
                self.check_holds("hue is " + word, {"hue": rank}, rank == place)
        self.check_holds("well is yes", {"well": 1}, True)
        self.check_holds("well is yes", {"well": 0}, False)
        self.check_holds("well is no", {"well": 1}, False)
        self.check_holds("well is no", {"well": 0}, True)

    def test_a_compare(self):
        for number in range(-3, 4):
            for rank in range(-5, 6):
                self.check_holds(f"age < {number}", {"age": rank}, rank < number)
                self.check_holds(f"age = {number}", {"age": rank}, rank == number)
                self.check_holds(f"total > {number}", {"total": rank}, rank > number)

    def test_money_is_held_against_its_rank(self):
        cost = KINDS["cost"]
        self.check_holds("cost > 350", {"cost": cost.rank(cost.read("3.50"))}, False)
        self.check_holds("cost > 350", {"cost": cost.rank(cost.read("3.51"))}, True)

    def test_a_name_that_leads_to_none(self):
        for text in ("well is yes", "well is no", "hue is red", "age < 3", "age = 0", "age > -3", "total < 10"):
            self.check_holds(text, {}, False)
            self.check_holds("not " + text, {}, True)

    def test_sayings_of_sayings(self):
        for one, other in itertools.product((0, 1), repeat=2):
            ranks = {"well": one, "age": other}
            self.check_holds("not well is yes", ranks, not one)
            self.check_holds("not not well is yes", ranks, bool(one))
            self.check_holds("( well is yes and age = 1 )", ranks, bool(one and other))
            self.check_holds("( well is yes or age = 1 )", ranks, bool(one or other))
            self.check_holds("( age = 1 or not ( well is yes or age = 1 ) )", ranks, bool(other or not one))
            self.check_holds("( age = 1 or not ( well is yes and age = 1 ) )", ranks, True)
        self.check_holds("( well is yes or age = 1 )", {"age": 1}, True)
        self.check_holds("( well is yes and age = 1 )", {"age": 1}, False)
        self.check_holds("( not well is yes and age = 1 )", {"age": 1}, True)


class SureTest(unittest.TestCase):
    def check_sure(self, text, spans, told):
        saying = read_saying(text).settled(KINDS)
        with self.subTest(text=text, spans=spans):
            self.assertIs(saying.sure(spans.get), told)

    def test_atoms_of_all_short_ranges(self):
        for low in range(-3, 4):
            for high in range(low, 4):
                for number in range(-4, 5):
                    for how in "<=>":
                        text = f"age {how} {number}"
                        saying = read_saying(text)
                        held = {saying.holds({"age": rank}.get) for rank in range(low, high + 1)}
                        self.check_sure(text, {"age": (low, high)}, held.pop() if len(held) == 1 else None)

    def test_an_is(self):
        for word, place in (("red", 0), ("green", 1), ("no", 2)):
            for low in range(3):
                for high in range(low, 3):
                    told = place == low if low == high else None if low <= place <= high else False
                    self.check_sure("hue is " + word, {"hue": (low, high)}, told)
        self.check_sure("well is yes", {"well": (0, 1)}, None)
        self.check_sure("well is no", {"well": (0, 0)}, True)

    def test_wide_ranges(self):
        wide = 10 ** 59
        self.check_sure("total = 5", {"total": (-wide, wide)}, None)
        self.check_sure("total < 5", {"total": (-wide, 4)}, True)
        self.check_sure("total < 5", {"total": (5, wide)}, False)
        self.check_sure("total > 5", {"total": (6, wide)}, True)
        self.check_sure("total = 5", {"total": (6, wide)}, False)

    def test_a_range_of_one_number_is_never_unsure(self):
        for rank in range(-5, 6):
            for how in "<=>":
                text = f"age {how} 2"
                self.check_sure(text, {"age": (rank, rank)}, read_saying(text).holds({"age": rank}.get))

    def test_a_name_that_leads_to_none(self):
        for text in ("well is yes", "well is no", "hue is red", "age < 3", "age = 0", "age > -3", "total < 10"):
            self.check_sure(text, {}, False)
            self.check_sure("not " + text, {}, True)

    def test_sayings_of_sayings(self):
        spans = {True: (1, 1), False: (0, 0), None: (0, 1)}
        turned = {True: False, False: True, None: None}
        both = {(True, True): True, (True, None): None, (None, True): None, (None, None): None}
        either = {(False, False): False, (False, None): None, (None, False): None, (None, None): None}
        for one, other in itertools.product(spans, repeat=2):
            looked = {"well": spans[one], "age": spans[other]}
            self.check_sure("not well is yes", looked, turned[one])
            self.check_sure("( well is yes and age = 1 )", looked, both.get((one, other), False))
            self.check_sure("( well is yes or age = 1 )", looked, either.get((one, other), True))
            self.check_sure("not ( well is yes or age = 1 )", looked, turned[either.get((one, other), True)])

    def test_parts_are_taken_each_for_itself(self):
        self.check_sure("( well is yes or not well is yes )", {"well": (0, 1)}, None)
        self.check_sure("( age < 3 and age > 2 )", {"age": (0, 9)}, None)


class FirstOpenTest(unittest.TestCase):
    def check_open(self, text, spans, told):
        saying = read_saying(text).settled(KINDS)
        before = saying_tree(saying)
        with self.subTest(text=text, spans=spans):
            atom = saying.first_open(spans.get)
            self.assertEqual(None if atom is None else atom.shown(), told)
            self.assertTrue(atom is None or any(atom is one for one in saying.atoms()))
            self.assertEqual(saying_tree(saying), before)

    def test_the_first_unsure_atom(self):
        spans = {"well": (0, 1), "age": (0, 9), "cost": (5, 5), "kids": (0, 3)}
        for text, told in (
            ("well is yes", "well is yes"),
            ("cost = 5", None),
            ("other < 3", None),
            ("not age < 3", "age < 3"),
            ("age < 10", None),
            ("( age < 10 and age < 9 )", "age < 9"),
            ("( cost = 5 or age < 9 )", "age < 9"),
            ("( cost = 4 and age < 9 )", "age < 9"),
            ("( ( cost = 5 and other < 3 ) or ( kids = 1 and well is no ) )", "kids = 1"),
            ("( not ( cost < 1 or well is no ) and kids = 1 )", "well is no"),
            ("( cost = 5 and not cost = 5 )", None),
        ):
            self.check_open(text, spans, told)

    def test_the_atom_told_knows_its_place(self):
        saying = read_saying("not ( hue is green and age < 3 )").settled(KINDS)
        self.assertEqual(saying.first_open({"hue": (0, 2), "age": (0, 9)}.get).place, 1)


if __name__ == "__main__":
    unittest.main()
