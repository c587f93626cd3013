"""Goings: a sound paper's sheets, rows and ways taken in their order, and the straight going by a book."""

from askpaper.addings import worth
from askpaper.looks import eaches_of, kinds_of, put_together
from askpaper.papers import Ask


def all_together(paper):
    """Tell of each sum of a paper how it is put together."""
    return dict([(name, put_together(paper, name)) for name, parts in paper.totals])


class Going:
    """The base of goings; alone is the thing of sheets that don't come again."""

    def __init__(self, paper, alone):
        self.paper = paper
        self.alone = alone
        self.kinds = kinds_of(paper)
        self.eaches = eaches_of(paper)
        self.together = all_together(paper)
        # From each question that was asked to a dict from things to what is known of the answer's rank.
        self.asked = {}
        self.log = []
        self.doubles = []
        self.over = False

    def things_of(self, sheet):
        """List the things for which a sheet is gone through."""
        raise NotImplementedError("each going has its own")

    def put(self, question, thing):
        """Put a question that is asked."""
        raise NotImplementedError("each going has its own")

    def is_so(self, saying, thing):
        """Tell whether a saying holds, for this thing; what has no saying does."""
        raise NotImplementedError("each going has its own")

    def note(self, question, thing, known):
        """Keep what is known of the rank of an answer."""
        if question not in self.asked:
            self.asked[question] = {}
        self.asked[question][thing] = known

    def own_thing(self, question, thing):
        """Tell for which thing a question answers that is named in a saying for this thing."""
        # In reach of a saying, of the questions on sheets that come again, are those of its own sheet alone.
        return self.alone if self.eaches[question] is None else thing

    def known_of(self, question, thing):
        """Tell what a saying for this thing knows of a question; None where it wasn't asked."""
        return self.asked.get(question, {}).get(self.own_thing(question, thing))

    def all_known_of(self, question):
        """List what is known of a question's answers so far, of all things."""
        return list(self.asked.get(question, {}).values())

    def stop_with(self, row):
        """Tell the last row to the log."""
        self.log.append(row)
        self.over = True

    def take_check(self, check, thing):
        """Take a check; where the going is over then, it wasn't sure of it."""
        passes = self.is_so(check.test, thing)
        if self.over:
            return
        if check.firm and not passes:
            self.stop_with(("held", check.name, thing))
        else:
            self.log.append(("pass" if passes else "warn", check.name, thing))

    def go_through(self, sheet, thing):
        """Take the rows of a sheet in their order."""
        for row in sheet.rows:
            if self.over:
                return
            if not isinstance(row, Ask):
                self.take_check(row, thing)
            elif self.is_so(row.when, thing):
                self.put(row.name, thing)

    def targets_of(self, sheet):
        """List the targets of all ways of a sheet that hold."""
        targets = []
        for target, saying in sheet.ways:
            if not self.over and self.is_so(saying, self.alone):
                targets.append(target)
        return targets

    def leave(self, place):
        """Try the ways of a sheet and tell the place of what follows."""
        sheet = self.paper.sheets[place]
        targets = self.targets_of(sheet)
        if len(targets) > 1 and not self.over:
            self.doubles.append(sheet.name)
        if len(targets) == 0:
            return place + 1
        names = [other.name for other in self.paper.sheets] + ["end"]
        return names.index(targets[0])

    def go(self):
        """Go from the first sheet on until the going is over."""
        place = 0
        while not self.over and place < len(self.paper.sheets):
            sheet = self.paper.sheets[place]
            for thing in self.things_of(sheet):
                self.go_through(sheet, thing)
            place = self.leave(place)
        if not self.over:
            self.stop_with(("end",))


class Straight(Going):
    """The straight going by a book; ranks of answers are what it knows."""

    def __init__(self, paper, book):
        Going.__init__(self, paper, "")
        self.book = book

    def things_of(self, sheet):
        if sheet.each is None:
            return [self.alone]
        return list(self.book[(sheet.each, self.alone)]) if sheet.each in self.asked else []

    def put(self, question, thing):
        kind = self.kinds[question]
        answer = self.book.get((question, thing))
        if kind.fits(answer):
            self.log.append(("ask", question, thing, answer))
            self.note(question, thing, kind.rank(answer))
        else:
            self.stop_with(("open", question, thing))

    def rank_of(self, name, thing):
        """Tell the rank of a question's answer, or a sum's worth."""
        if name not in self.together:
            return self.known_of(name, thing)
        together = self.together[name]
        return worth(together[0], lambda question: sum(self.all_known_of(question))) + together[1]

    def is_so(self, saying, thing):
        return saying is None or saying.settled(self.kinds).holds(lambda name: self.rank_of(name, thing))


def straight(paper, book):
    """Go through a paper by a book and tell the log."""
    going = Straight(paper, book)
    going.go()
    return going.log


def sums_of(paper, log):
    """Tell the worth of each sum by all questions asked in a log."""
    kinds = kinds_of(paper)
    ranks = {}
    for row in log:
        if row[0] == "ask":
            ranks[row[1]] = ranks.get(row[1], 0) + kinds[row[1]].rank(row[3])
    told = []
    for name, together in all_together(paper).items():
        told.append((name, worth(together[0], lambda question: ranks.get(question, 0)) + together[1]))
    return told
