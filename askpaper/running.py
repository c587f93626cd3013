"""Runs: pages gone through by a book."""

from askpaper.addings import worth
from askpaper.kinds import kind_of
from askpaper.sayings import compares


class Run:
    """A run over pages: the log and the ranks so far, the present place and the present thing."""

    def __init__(self, book):
        self.book = book
        self.ranks = {}
        self.place = 0
        self.thing = ""
        self.log = []

    def thing_by(self, each):
        """Tell for which thing a page stands that tells by what its sheet comes again."""
        return "" if each is None else self.thing

    def take_ask(self, question, kind, each, behind):
        """Ask a question; tell the page behind, None where the run is over."""
        key = (question, self.thing_by(each))
        answer = self.book.get(key)
        if not kind.fits(answer):
            self.log.append(("open",) + key)
            return None
        self.log.append(("ask",) + key + (answer,))
        self.ranks[key] = kind.rank(answer)
        return behind

    def rank_of(self, question, own):
        """Tell the rank of a question's answer in this run; None where it wasn't asked."""
        return self.ranks.get((question, self.thing if own else ""))

    def all_ranks(self, question):
        """Add up the ranks of all answers to a question in this run."""
        return sum([rank for key, rank in self.ranks.items() if key[0] == question])

    def take_more(self, question, yes, no):
        """Make the name at the present place the present thing; tell the page behind."""
        key = (question, "")
        if key not in self.ranks or self.place >= self.ranks[key]:
            return no
        self.thing = self.book[key][self.place]
        return yes

    def worth_of(self, terms, plus):
        """Tell the worth of a sum that is put together."""
        return worth(terms, lambda question: self.all_ranks(question)) + plus

    def take_page(self, page):
        """Take a page; tell the number of the one behind, None where the run is over."""
        word = page[0]
        if word == "ask":
            return self.take_ask(page[1], kind_of(page[2]), page[3], page[4])
        if word == "compare":
            return page[5] if compares(self.rank_of(page[1], page[2]), page[3], page[4]) else page[6]
        if word == "total":
            return page[5] if compares(self.worth_of(page[1], page[2]), page[3], page[4]) else page[6]
        if word == "more":
            return self.take_more(page[1], page[2], page[3])
        if word in ("first", "on"):
            self.place = 0 if word == "first" else self.place + 1
            return page[-1]
        self.log.append((word,) if word == "end" else (word, page[1], self.thing_by(page[2])))
        return page[3] if word in ("pass", "warn") else None


def run(pages, book):
    """Go over pages by a book and tell the log."""
    going = Run(book)
    number = 0
    while number is not None:
        number = going.take_page(pages[number])
    return going.log
