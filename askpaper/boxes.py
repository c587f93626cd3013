"""Boxes: the going by ranges of ranks, and where a box is split that leaves it unsure."""

from askpaper.going import Going
from askpaper.sayings import Is


def range_in(box, kinds, question, k):
    """Tell the range of ranks that a box gives to a question and a place."""
    kind = kinds[question]
    return box.get((question, k), (kind.low, kind.high))


def cut_out(number, low):
    """Tell behind which rank a range from low on is cut to get at one rank in it."""
    return number - 1 if low < number else number


def cut_of(atom, low):
    """Tell behind which rank a range from low on is cut, so that the atom is sure by one half at least."""
    if isinstance(atom, Is):
        return cut_out(atom.place, low)
    if atom.how == "<":
        return atom.number - 1
    if atom.how == ">":
        return atom.number
    return cut_out(atom.number, low)


class ByBox(Going):
    """The going by a box; ranges of ranks are what it knows, and things are places from 0 on."""

    def __init__(self, paper, box):
        Going.__init__(self, paper, 0)
        self.box = box
        self.cutting = None

    def split_at(self, question, thing, cut):
        """The going is unsure: keep where the box is split."""
        self.cutting = (question, thing, cut)
        self.over = True

    def things_of(self, sheet):
        if sheet.each is None:
            return [self.alone]
        span = self.known_of(sheet.each, self.alone)
        if span is None:
            return []
        if span[0] < span[1]:
            self.split_at(sheet.each, self.alone, span[0])
            return []
        return list(range(span[0]))

    def put(self, question, thing):
        self.log.append(("ask", question, thing))
        self.note(question, thing, range_in(self.box, self.kinds, question, thing))

    def span_of(self, name, thing):
        """Tell the range of a question's rank, or the least and the greatest worth of a sum."""
        if name not in self.together:
            return self.known_of(name, thing)
        together = self.together[name]
        low = together[1]
        high = together[1]
        for times, question in together[0]:
            for span in self.all_known_of(question):
                ends = (times * span[0], times * span[1])
                low += min(ends)
                high += max(ends)
        return (low, high)

    def is_so(self, saying, thing):
        if saying is None:
            return True
        settled = saying.settled(self.kinds)
        look = lambda name: self.span_of(name, thing)
        told = settled.sure(look)
        if told is None:
            self.split_by(settled.first_open(look), thing)
        return told is True

    def split_by(self, atom, thing):
        """Split at what leaves an atom unsure."""
        if atom.name in self.together:
            self.split_sum(atom.name)
        else:
            low = self.known_of(atom.name, thing)[0]
            self.split_at(atom.name, self.own_thing(atom.name, thing), cut_of(atom, low))

    def split_sum(self, name):
        """Split in the middle of the first range in a sum that has more than one rank."""
        for times, question in self.together[name][0]:
            for thing, span in self.asked.get(question, {}).items():
                if span[0] < span[1]:
                    self.split_at(question, thing, (span[0] + span[1]) // 2)
                    return


def going_by(paper, box):
    """Go through a paper by a box; tell whether that is sure, the log, the doubles, and where the box is split."""
    going = ByBox(paper, box)
    going.go()
    return (going.cutting is None, going.log, going.doubles, going.cutting)
