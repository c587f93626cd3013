"""The hand: it goes back and forth through a sound paper, leaves, and comes again."""

from askpaper.errors import NoAnswer, NoLeft, NotCome, NotYet, Nowhere
from askpaper.going import straight, sums_of
from askpaper.looks import eaches_of, kinds_of
from askpaper.words import is_name


def shown_place(place):
    """Write a question and a thing, or None."""
    if place is None:
        return "-"
    return place[0] if place[1] == "" else place[0] + " " + place[1]


class Hand:
    """A book, and a finger at a question of the going by that book, or behind them all."""

    def __init__(self, paper):
        self.paper = paper
        self.kinds = kinds_of(paper)
        self.book = {}
        # By an empty book there is one question at most in the going, the open one.
        places = self.places()
        self.finger = places[0] if len(places) > 0 else None

    def log_now(self):
        """Tell the log of the straight going by the book."""
        return straight(self.paper, self.book)

    def places(self):
        """List the questions of the going, with their things; the open one is the last."""
        return [(row[1], row[2]) for row in self.log_now() if row[0] in ("ask", "open")]

    def put_behind(self):
        """Put the finger behind the question where it is."""
        places = self.places()
        behind = places.index(self.finger) + 1
        self.finger = places[behind] if behind < len(places) else None

    def demand_finger(self):
        """Refuse a finger that is at no question."""
        if self.finger is None:
            raise Nowhere("the finger is behind all questions")

    def at(self):
        """Tell where the finger is."""
        return self.finger

    def answer(self, text):
        """Answer the question at the finger."""
        self.demand_finger()
        self.book[self.finger] = self.kinds[self.finger[0]].read(text)
        # Whether this question is asked hangs on nothing but what stands ahead, so it is still in the going.
        self.put_behind()

    def on(self):
        """Go on to the next question."""
        self.demand_finger()
        if self.state() == ("open",) + self.finger:
            raise NotYet("the question at the finger has no answer yet")
        self.put_behind()

    def back(self):
        """Go back to the question ahead."""
        places = self.places()
        place = len(places) if self.finger is None else places.index(self.finger)
        if place == 0:
            raise Nowhere("there is no question ahead")
        self.finger = places[place - 1]

    def jump(self, question, thing=""):
        """Go to a question of the going."""
        if (question, thing) not in self.places():
            raise NotCome(f"the going hasn't come to {question!r} {thing!r}")
        self.finger = (question, thing)

    def counts(self):
        """List the answers that count, in the order of the going."""
        return [(row[1], row[2], row[3]) for row in self.log_now() if row[0] == "ask"]

    def aside(self):
        """List the answers that are kept aside, sorted."""
        counting = [(question, thing) for question, thing, answer in self.counts()]
        return [(key[0], key[1], self.book[key]) for key in sorted(self.book) if key not in counting]

    def state(self):
        """Tell the last row of the log."""
        return self.log_now()[-1]

    def sums(self):
        """Tell the worth of each sum."""
        return sums_of(self.paper, self.log_now())

    def shown_answer(self, key):
        """Write an answer of the book, with its question and thing ahead."""
        return shown_place(key) + " = " + self.kinds[key[0]].shown(self.book[key])

    def left(self):
        """Write what is left: the finger, and all answers of the book."""
        return "\n".join(["at " + shown_place(self.finger)] + [self.shown_answer(key) for key in sorted(self.book)])


def read_finger(line):
    """Read the row of the finger."""
    words = line.split(" ")
    if words == ["at", "-"]:
        return None
    names = words[1:]
    if words[0] != "at" or len(names) not in (1, 2) or not all([is_name(name) for name in names]):
        raise NoLeft(0)
    return (names[0], names[1] if len(names) == 2 else "")


def key_or_none(words, eaches):
    """Make the key of an answer of the words that write it; None where they write none."""
    if words[0] not in eaches:
        return None
    if eaches[words[0]] is None:
        return (words[0], "") if len(words) == 1 else None
    return (words[0], words[1]) if len(words) == 2 and is_name(words[1]) else None


def written_or_none(kind, text):
    """Read an answer just as it is written; None where it is none."""
    try:
        answer = kind.read(text)
    except NoAnswer:
        return None
    # Blanks around an answer are read, but nothing writes them.
    return answer if kind.shown(answer) == text else None


def read_book(paper, lines):
    """Read the rows of what is left, those behind the first one, to a book."""
    kinds = kinds_of(paper)
    eaches = eaches_of(paper)
    book = {}
    for place, line in enumerate(lines, start=1):
        parted = line.partition(" = ")
        key = key_or_none(parted[0].split(" "), eaches)
        answer = None if key is None else written_or_none(kinds[key[0]], parted[2])
        if answer is None or key in book:
            raise NoLeft(place)
        book[key] = answer
    return book


def come_again(paper, text):
    """Make the hand that left this text."""
    if not isinstance(text, str):
        raise NoLeft(0)
    lines = text.split("\n")
    finger = read_finger(lines[0])
    hand = Hand(paper)
    hand.book = read_book(paper, lines[1:])
    places = hand.places()
    if finger not in places and (finger is not None or hand.state()[0] == "open"):
        raise NoLeft(0)
    hand.finger = finger
    return hand
