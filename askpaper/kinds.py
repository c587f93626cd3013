"""The five kinds of answers: what fits, how it is written and read, and its rank."""

from askpaper.errors import NoAnswer, NoKind
from askpaper.words import are_figures, are_unlike_names, figures_worth, is_whole, number_or_none

WRITTEN_TRUTHS = {"yes": True, "no": False}
SAMPLE_NAMES = ("a", "b", "c", "d", "e", "f")
MOST_NAMES = 6
FEWEST_WORDS = 2
MOST_WORDS = 6
MOST_FIGURES = 60


def money_shown(hundredths):
    """Write a whole number of hundredths as money."""
    figures = str(abs(hundredths)).zfill(3)
    minus = "-" if hundredths < 0 else ""
    return minus + figures[:-2] + "." + figures[-2:]


def money_or_none(text):
    """Read money as a whole number of hundredths; None where it is none."""
    figures = text.replace("-", "").replace(".", "")
    if not are_figures(figures) or len(figures) > MOST_FIGURES:
        return None
    worth = figures_worth(figures)
    hundredths = -worth if text.startswith("-") else worth
    # Each amount is written in one way alone, so whatever else was left out above shows here.
    return hundredths if money_shown(hundredths) == text else None


class Kind:
    """The base of all kinds: the least and the greatest rank, and what each kind can do."""

    def __init__(self, low, high):
        self.low = low
        self.high = high

    def fits(self, thing):
        """Tell of anything whether it is an answer of this kind."""
        raise NotImplementedError("each kind has its own")

    def answer_of(self, text):
        """Tell what a text without blanks around it writes; what doesn't fit where it writes no answer."""
        raise NotImplementedError("each kind has its own")

    def read(self, text):
        """Read a written answer, blanks ahead and behind left out."""
        if not isinstance(text, str):
            raise NoAnswer("what is no text writes no answer")
        answer = self.answer_of(text.strip(" "))
        if not self.fits(answer):
            raise NoAnswer(f"no answer of this kind: {text!r}")
        return answer

    def shown(self, answer):
        """Write an answer of this kind."""
        raise NotImplementedError("each kind has its own")

    def rank(self, answer):
        """Tell the rank of an answer of this kind."""
        raise NotImplementedError("each kind has its own")

    def sample(self, rank):
        """Tell an answer of just this rank."""
        raise NotImplementedError("each kind has its own")

    def told(self):
        """Write the kind itself."""
        raise NotImplementedError("each kind has its own")


class YesNo(Kind):
    """The answers True and False."""

    def __init__(self):
        Kind.__init__(self, 0, 1)

    def fits(self, thing):
        return isinstance(thing, bool)

    def answer_of(self, text):
        return WRITTEN_TRUTHS.get(text)

    def shown(self, answer):
        return "yes" if answer else "no"

    def rank(self, answer):
        return 1 if answer else 0

    def sample(self, rank):
        return rank == 1

    def told(self):
        return "yesno"


class Whole(Kind):
    """The whole numbers from low to high."""

    def fits(self, thing):
        return is_whole(thing) and self.low <= thing <= self.high

    def answer_of(self, text):
        return number_or_none(text)

    def shown(self, answer):
        return str(answer)

    def rank(self, answer):
        return answer

    def sample(self, rank):
        return rank

    def bounds(self):
        """Write low and high as answers are written."""
        return self.shown(self.low) + " " + self.shown(self.high)

    def told(self):
        return "whole " + self.bounds()


class Money(Whole):
    """The whole numbers of hundredths from low to high."""

    def answer_of(self, text):
        return money_or_none(text)

    def shown(self, answer):
        return money_shown(answer)

    def told(self):
        return "money " + self.bounds()


class Pick(Kind):
    """One of the words, ranked by its place."""

    def __init__(self, words):
        Kind.__init__(self, 0, len(words) - 1)
        self.words = list(words)

    def fits(self, thing):
        return isinstance(thing, str) and thing in self.words

    def answer_of(self, text):
        return text

    def shown(self, answer):
        return answer

    def rank(self, answer):
        return self.words.index(answer)

    def sample(self, rank):
        return self.words[rank]

    def told(self):
        return "pick " + " ".join(self.words)


class Names(Kind):
    """A tuple of none to most names, ranked by how many."""

    def __init__(self, most=3):
        Kind.__init__(self, 0, most)

    def fits(self, thing):
        return isinstance(thing, tuple) and len(thing) <= self.high and are_unlike_names(thing)

    def answer_of(self, text):
        return () if text == "-" else tuple(text.split(" "))

    def shown(self, answer):
        return " ".join(answer) if len(answer) > 0 else "-"

    def rank(self, answer):
        return len(answer)

    def sample(self, rank):
        return SAMPLE_NAMES[:rank]

    def told(self):
        return "names " + str(self.high)


def are_bounds(numbers):
    """Tell whether these are two numbers (None stands for what is none), the first not above the second."""
    return len(numbers) == 2 and None not in numbers and numbers[0] <= numbers[1]


def whole_or_none(words):
    """Make a kind whole of the words behind its first one; None where they write none."""
    numbers = [number_or_none(word) for word in words]
    return Whole(numbers[0], numbers[1]) if are_bounds(numbers) else None


def money_kind_or_none(words):
    """Make a kind money likewise."""
    numbers = [money_or_none(word) for word in words]
    return Money(numbers[0], numbers[1]) if are_bounds(numbers) else None


def pick_or_none(words):
    """Make a kind pick likewise."""
    if FEWEST_WORDS <= len(words) <= MOST_WORDS and are_unlike_names(words):
        return Pick(words)
    return None


def names_or_none(words):
    """Make a kind names likewise."""
    most = number_or_none(words[0]) if len(words) == 1 else None
    return Names(most) if most is not None and 1 <= most <= MOST_NAMES else None


def kind_or_none(first, words):
    """Make a kind of its first word and those behind it; None where they write none."""
    if first == "yesno":
        return YesNo() if len(words) == 0 else None
    if first == "whole":
        return whole_or_none(words)
    if first == "money":
        return money_kind_or_none(words)
    if first == "pick":
        return pick_or_none(words)
    if first == "names":
        return names_or_none(words)
    return None


def kind_of(text):
    """Read a kind as it is written."""
    if not isinstance(text, str):
        raise NoKind("what is no text writes no kind")
    words = text.split(" ")
    kind = kind_or_none(words[0], words[1:])
    if kind is None:
        raise NoKind(f"no kind: {text!r}")
    return kind
