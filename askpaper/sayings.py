"""Sayings: how they are written and read, settled by kinds, and whether they hold or are sure."""

from askpaper.errors import NoSaying, WrongKind
from askpaper.kinds import Names, Pick, Whole, YesNo
from askpaper.words import is_name, number_or_none

HOWS = ("<", "=", ">")
DEEPEST = 8
MOST_ATOMS = 16


def compares(rank, how, number):
    """Tell whether a rank is less than, equal to, greater than a number; not so where the rank is None."""
    if rank is None:
        return False
    if how == "<":
        return rank < number
    if how == ">":
        return rank > number
    return rank == number


def surely_compares(span, how, number):
    """Tell the same of all ranks from a low to a high one: True, False, or None where they differ."""
    if span is None:
        return False
    at_ends = [compares(end, how, number) for end in span]
    if all(at_ends):
        return True
    # A rank in between can be equal to the number while neither end is; with < and > one end holds then.
    between = span[0] < number < span[1]
    return None if any(at_ends) or between else False


class Saying:
    """The base of all sayings, and what each of them can do."""

    def shown(self):
        """Write the saying."""
        raise NotImplementedError("each saying has its own")

    def atoms(self):
        """List the atoms in the order of writing."""
        raise NotImplementedError("each saying has its own")

    def settled(self, kinds):
        """Make a like saying in which each Is knows its word's rank by the kinds of questions."""
        raise NotImplementedError("each saying has its own")

    def holds(self, look):
        """Tell whether a settled saying holds; look tells the number of a name, or None."""
        raise NotImplementedError("each saying has its own")

    def sure(self, look):
        """Tell True, False or None (unsure) of a settled saying; look tells (low, high) of a name, or None."""
        raise NotImplementedError("each saying has its own")

    def first_open(self, look):
        """Tell the first atom of a settled saying that is unsure; None where there is none."""
        for atom in self.atoms():
            if atom.sure(look) is None:
                return atom
        return None


class Is(Saying):
    """The answer to a question is this word."""

    def __init__(self, name, word, place=None):
        self.name = name
        self.word = word
        self.place = place

    def shown(self):
        return self.name + " is " + self.word

    def atoms(self):
        return [self]

    def settled(self, kinds):
        kind = kinds.get(self.name)
        if not isinstance(kind, (YesNo, Pick)):
            raise WrongKind(self.name)
        answer = kind.answer_of(self.word)
        if not kind.fits(answer):
            raise WrongKind(self.name)
        return Is(self.name, self.word, kind.rank(answer))

    def holds(self, look):
        return compares(look(self.name), "=", self.place)

    def sure(self, look):
        return surely_compares(look(self.name), "=", self.place)


class Compare(Saying):
    """The rank of an answer, or a sum's worth, is less than, equal to or greater than this number."""

    def __init__(self, name, how, number):
        self.name = name
        self.how = how
        self.number = number

    def shown(self):
        return self.name + " " + self.how + " " + str(self.number)

    def atoms(self):
        return [self]

    def settled(self, kinds):
        # Money stands under Whole; a name that isn't among the kinds may be that of a sum.
        if self.name in kinds and not isinstance(kinds[self.name], (Whole, Names)):
            raise WrongKind(self.name)
        return Compare(self.name, self.how, self.number)

    def holds(self, look):
        return compares(look(self.name), self.how, self.number)

    def sure(self, look):
        return surely_compares(look(self.name), self.how, self.number)


class Not(Saying):
    """Its part doesn't hold."""

    def __init__(self, test):
        self.test = test

    def shown(self):
        return "not " + self.test.shown()

    def atoms(self):
        return self.test.atoms()

    def settled(self, kinds):
        return Not(self.test.settled(kinds))

    def holds(self, look):
        return not self.test.holds(look)

    def sure(self, look):
        told = self.test.sure(look)
        return None if told is None else not told


class Pair(Saying):
    """The base of what is made of two sayings."""

    def __init__(self, one, other):
        self.one = one
        self.other = other

    def shown_with(self, word):
        """Write the two with a word between them."""
        return "( " + self.one.shown() + " " + word + " " + self.other.shown() + " )"

    def atoms(self):
        return self.one.atoms() + self.other.atoms()

    def both_sure(self, look):
        """Tell of both parts how sure they are."""
        return (self.one.sure(look), self.other.sure(look))


class Both(Pair):
    """Both parts hold."""

    def shown(self):
        return self.shown_with("and")

    def settled(self, kinds):
        return Both(self.one.settled(kinds), self.other.settled(kinds))

    def holds(self, look):
        return self.one.holds(look) and self.other.holds(look)

    def sure(self, look):
        told = self.both_sure(look)
        if False in told:
            return False
        return None if None in told else True


class Either(Pair):
    """One part holds, or both do."""

    def shown(self):
        return self.shown_with("or")

    def settled(self, kinds):
        return Either(self.one.settled(kinds), self.other.settled(kinds))

    def holds(self, look):
        return self.one.holds(look) or self.other.holds(look)

    def sure(self, look):
        told = self.both_sure(look)
        if True in told:
            return True
        return None if None in told else False


class WordsLeft:
    """The words of a text that are still to be read."""

    def __init__(self, words):
        self.words = words
        self.taken = 0

    def take(self):
        """Take the next word; the text without signs, which is no word of a saying, where there is none."""
        word = self.words[self.taken] if self.taken < len(self.words) else ""
        self.taken += 1
        return word

    def are_all_taken(self):
        """Tell whether just all words were taken."""
        return self.taken == len(self.words)


def read_atom(name, how, what):
    """Read an atom of its three words."""
    if is_name(name) and how == "is" and is_name(what):
        return Is(name, what)
    number = number_or_none(what)
    if is_name(name) and how in HOWS and number is not None:
        return Compare(name, how, number)
    raise NoSaying(f"no atom: {name!r} {how!r} {what!r}")


def read_pair(left, deepest):
    """Read two sayings and the words around them, the first bracket being taken."""
    one = read_next(left, deepest)
    word = left.take()
    other = read_next(left, deepest)
    closed = left.take() == ")"
    if closed and word == "and":
        return Both(one, other)
    if closed and word == "or":
        return Either(one, other)
    raise NoSaying(f"no two sayings in brackets with {word!r} between")


def read_next(left, deepest):
    """Read one saying, at most so deep, of the words that are left."""
    # Refused here and not behind the reading: how deep a call may go is a setting of Python's.
    if deepest == 0:
        raise NoSaying("the saying is too deep")
    first = left.take()
    if first == "not":
        return Not(read_next(left, deepest - 1))
    if first == "(":
        return read_pair(left, deepest - 1)
    return read_atom(first, left.take(), left.take())


def read_saying(text):
    """Read a saying as it is written."""
    if not isinstance(text, str):
        raise NoSaying("what is no text writes no saying")
    left = WordsLeft(text.split(" "))
    saying = read_next(left, DEEPEST)
    if not left.are_all_taken() or len(saying.atoms()) > MOST_ATOMS:
        raise NoSaying(f"no saying, or too many atoms: {text!r}")
    return saying
