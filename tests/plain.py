"""A second telling of looks, goings, covers, the looker and runs, to hold the program's own against."""

import re

from askpaper.addings import read_sum
from askpaper.kinds import Names, Pick, Whole, YesNo, kind_of
from askpaper.sayings import read_saying
from askpaper.words import is_name

ATOM = re.compile(r"([a-z]+) (is|<|=|>) (\S+)")


def parted(text, word):
    """What stands ahead of a word and what behind it, or None."""
    ahead, found, behind = text.partition(word)
    return ahead, behind if found else None


def is_answer(kind, thing):
    if isinstance(kind, YesNo):
        return thing is True or thing is False
    if isinstance(kind, Whole):
        return type(thing) is int and thing in range(kind.low, kind.high + 1)
    if isinstance(kind, Pick):
        return type(thing) is str and kind.words.count(thing) == 1
    return (type(thing) is tuple and len(thing) <= kind.high
            and all(is_name(name) and thing.count(name) == 1 for name in thing))


def rank_of(kind, answer):
    if isinstance(kind, Pick):
        return kind.words.index(answer)
    return len(answer) if isinstance(kind, Names) else int(answer)


class PlainSheet:
    def __init__(self, rest):
        self.name, self.each = parted(rest, " each ")
        self.lines = []


class PlainPaper:
    """Sheets as lists of tuples (word, name, kind or None, saying as a text or None), rows and ways alike."""

    def __init__(self, text):
        self.sheets, self.sums = [], []
        self.kinds, self.home = {}, {}
        for row in text.split("\n")[1:]:
            word, rest = parted(row, " ")
            if word == "sheet":
                self.sheets.append(PlainSheet(rest))
            elif word == "sum":
                name, parts = parted(rest, " ")
                self.sums.append((name, read_sum(parts)))
            else:
                self.take(word, *parted(rest, " unless " if word in ("refuse", "warn") else " when "))
        self.parts = dict(self.sums)

    def take(self, word, head, saying):
        name, kind = parted(head, " ")
        sheet = self.sheets[-1]
        if word == "ask":
            kind = kind_of(kind)
            self.kinds.setdefault(name, kind)
            self.home.setdefault(name, (len(self.sheets) - 1, len(sheet.lines)))
        sheet.lines.append((word, name, kind, saying))

    # Looks

    def first_fault(self):
        """The name of the class of the first refusal and the name in it (None for a ring); None where it is sound."""
        for faults in (self.twice(), self.wrong_names(), self.rings(), self.out_of_reach()):
            for fault in faults:
                return fault
        return None

    def twice(self):
        names = []
        for sheet in self.sheets:
            names += [sheet.name] + [line[1] for line in sheet.lines if line[0] != "way"]
        names += [name for name, _ in self.sums]
        return [("Twice", name) for place, name in enumerate(names) if name in names[:place]]

    def wrong_names(self):
        for place, sheet in enumerate(self.sheets):
            if sheet.each is not None and sheet.each not in self.kinds:
                yield "Unknown", sheet.each
            elif sheet.each is not None and not self.kinds[sheet.each].told().startswith("names"):
                yield "WrongKind", sheet.each
            for word, name, _, saying in sheet.lines:
                if word == "way" and name != "end" and name not in [later.name for later in self.sheets[place + 1:]]:
                    yield "NoWay", name
                for atom in ATOM.findall(saying or ""):
                    yield from self.wrong_atom(*atom)
        for _, parts in self.sums:
            for name in [name for _, name in parts if name is not None]:
                if name not in self.kinds and name not in self.parts:
                    yield "Unknown", name
                if name in self.kinds and self.kinds[name].told().startswith("pick"):
                    yield "WrongKind", name

    def wrong_atom(self, name, how, what):
        if name not in self.kinds and name not in self.parts:
            yield "Unknown", name
            return
        words = self.kinds[name].told().split(" ") if name in self.kinds else ["sum"]
        choices = {"yesno": ["yes", "no"], "pick": words[1:]}.get(words[0], [])
        if (how == "is" and what not in choices) or (how != "is" and words[0] in ("yesno", "pick")):
            yield "WrongKind", name

    def inner_sums(self, name):
        """All sums to which one comes through the names of parts."""
        found, new = set(), {name}
        while new:
            new = {part for known in new for _, part in self.parts[known] if part in self.parts} - found
            found |= new
        return found

    def rings(self):
        return [("Ring", None) for name, _ in self.sums if name in self.inner_sums(name)]

    def questions_in(self, name):
        return {part for known in self.inner_sums(name) | {name}
                for _, part in self.parts[known] if part in self.kinds}

    def again(self, question):
        return self.sheets[self.home[question][0]].each is not None

    def is_in_reach(self, name, place, spot):
        here = self.sheets[place].lines[spot][0]
        if name in self.parts:
            return all(self.is_counted(question, place, spot, here) for question in self.questions_in(name))
        home, row = self.home[name]
        if here == "way":
            return home <= place and not self.again(name)
        return (home == place and row < spot) or (home < place and not self.again(name))

    def is_counted(self, question, place, spot, here):
        home, row = self.home[question]
        if here == "way":
            return home <= place
        return home < place or (home == place and row < spot and not self.again(question))

    def can_come_by(self, question, place):
        return self.home[question][0] < place and not self.again(question)

    def out_of_reach(self):
        for place, sheet in enumerate(self.sheets):
            if sheet.each is not None and not self.can_come_by(sheet.each, place):
                yield "OutOfReach", sheet.each
            for spot, line in enumerate(sheet.lines):
                for name, _, _ in ATOM.findall(line[3] or ""):
                    if not self.is_in_reach(name, place, spot):
                        yield "OutOfReach", name

    # The straight going

    def straight(self, book):
        self.answers, log, place = {}, [], 0
        while place < len(self.sheets):
            sheet, target = self.sheets[place], None
            things = [""] if sheet.each is None else self.answers.get((sheet.each, ""), ())
            for thing in things:
                for word, name, kind, saying in sheet.lines:
                    if word == "way":
                        continue
                    so = self.holds(saying, place, thing)
                    if word == "ask" and so:
                        answer = book.get((name, thing))
                        if not is_answer(kind, answer):
                            return log + [("open", name, thing)]
                        self.answers[name, thing] = answer
                        log.append(("ask", name, thing, answer))
                    elif word == "refuse" and not so:
                        return log + [("held", name, thing)]
                    elif word != "ask":
                        log.append(("pass" if so else "warn", name, thing))
            for word, name, _, saying in sheet.lines:
                if word == "way" and target is None and self.holds(saying, place, ""):
                    target = name
            if target == "end":
                break
            place = [other.name for other in self.sheets].index(target) if target else place + 1
        return log + [("end",)]

    def holds(self, saying, place, thing):
        if saying is None:
            return True
        said = ATOM.sub(lambda found: str(self.atom_holds(found.groups(), place, thing)), saying)
        return eval(said)

    def atom_holds(self, atom, place, thing):
        name, how, what = atom
        if name in self.parts:
            number = self.worth(name)
        else:
            key = (name, thing if self.home[name][0] == place else "")
            if key not in self.answers:
                return False
            if how == "is":
                return self.answers[key] == {"yes": True, "no": False}.get(what, what)
            number = rank_of(self.kinds[name], self.answers[key])
        return compared_so(number, how, int(what))

    def worth(self, name):
        if name is None:
            return 1
        if name in self.parts:
            return sum(times * self.worth(part) for times, part in self.parts[name])
        return sum(rank_of(self.kinds[name], answer) for key, answer in self.answers.items() if key[0] == name)

    def sums_now(self):
        """The sums of the going that was gone last."""
        return [(name, self.worth(name)) for name, _ in self.sums]

    # The going by a box

    def going_by(self, box):
        self.ranges, log, doubles, place = {}, [], [], 0
        while place < len(self.sheets):
            sheet = self.sheets[place]
            low, high = (1, 1) if sheet.each is None else self.ranges.get((sheet.each, 0), (0, 0))
            if low != high:
                return False, log, doubles, (sheet.each, 0, low)
            for k in range(low):
                for word, name, kind, saying in sheet.lines:
                    if word == "way":
                        continue
                    so, split = self.sure(saying, place, k)
                    if so is None:
                        return False, log, doubles, split
                    if word == "ask" and so:
                        self.ranges[name, k] = box.get((name, k), (kind.low, kind.high))
                        log.append(("ask", name, k))
                    elif word == "refuse" and not so:
                        return True, log + [("held", name, k)], doubles, None
                    elif word != "ask":
                        log.append(("pass" if so else "warn", name, k))
            told = [(name, *self.sure(saying, place, 0)) for word, name, _, saying in sheet.lines if word == "way"]
            for _, so, split in told:
                if so is None:
                    return False, log, doubles, split
            targets = [name for name, so, _ in told if so]
            if len(targets) > 1:
                doubles.append(sheet.name)
            if targets[:1] == ["end"]:
                break
            place = [other.name for other in self.sheets].index(targets[0]) if targets else place + 1
        return True, log + [("end",)], doubles, None

    def sure(self, saying, place, k):
        if saying is None:
            return True, None
        settled = read_saying(saying).settled(self.kinds)
        look = lambda name: self.range_of(name, place, k)
        so = settled.sure(look)
        return so, None if so is not None else self.split_at(settled.first_open(look), place, k)

    def range_of(self, name, place, k):
        if name in self.kinds:
            return self.ranges.get((name, k if self.home[name][0] == place else 0))
        ends = [(times * low, times * high) for times, question in self.terms(name)[0]
                for (other, _), (low, high) in self.ranges.items() if other == question]
        plus = self.terms(name)[1]
        return plus + sum(min(end) for end in ends), plus + sum(max(end) for end in ends)

    def terms(self, name):
        """A sum put together, by its parts taken in place one behind the other."""
        flat = self.flat(name, 1)
        terms = []
        for _, question in flat:
            times = sum(other for other, asked in flat if asked == question)
            if question is not None and times != 0 and (times, question) not in terms:
                terms.append((times, question))
        return terms, sum(times for times, question in flat if question is None)

    def flat(self, name, often):
        if name not in self.parts:
            return [(often, name)]
        return [end for times, part in self.parts[name] for end in self.flat(part, often * times)]

    def split_at(self, atom, place, k):
        name, how, what = ATOM.findall(atom.shown())[0]
        if name in self.parts:
            for _, question in self.terms(name)[0]:
                for other, k in sorted(self.ranges):
                    low, high = self.ranges[other, k]
                    if other == question and low < high:
                        return question, k, (low + high - (low + high) % 2) // 2
        k = k if self.home[name][0] == place else 0
        low, high = self.ranges[name, k]
        if how == "is":
            number = rank_of(self.kinds[name], {"yes": True, "no": False}.get(what, what))
        else:
            number = int(what)
        if how in "<>":
            return name, k, number - 1 if how == "<" else number
        return name, k, number - 1 if low < number else number

    # The cover

    def cover(self, most, fixed=()):
        nodes, waiting, splits = [], [dict(fixed)], 0
        while waiting:
            box = waiting.pop(0)
            sure, log, doubles, split = self.going_by(box)
            if sure or splits == most:
                ranges = [(*row[1:], *self.ranges[row[1:]]) for row in log if row[0] == "ask"]
                nodes.append(("leaf", sure, log, ranges, doubles))
            else:
                *key, cut = split
                low, high = self.ranges[tuple(key)]
                nodes.append(("split", *split, len(nodes) + len(waiting) + 1, len(nodes) + len(waiting) + 2))
                waiting += [{**box, tuple(key): span} for span in ((low, cut), (cut + 1, high))]
                splits += 1
        return nodes

    def placed(self, log):
        """The rows of a straight going with places in the stead of things, and without answers."""
        lists = {row[1]: row[3] for row in log if row[0] == "ask" and isinstance(self.kinds[row[1]], Names)}
        eaches = {line[1]: sheet.each for sheet in self.sheets for line in sheet.lines if line[0] != "way"}
        return [row if row == ("end",) else (*row[:2], lists[eaches[row[1]]].index(row[2]) if row[2] else 0)
                for row in log]

    # The looker

    def come_to(self, question, most):
        return self.told(self.cover(most), lambda leaf: self.asked_ahead(leaf, "ask", question))

    def met(self, check, most):
        return self.told(self.cover(most), lambda leaf: self.asked_ahead(leaf, "pass", check))

    def two_ways(self, name, most):
        place = [sheet.name for sheet in self.sheets].index(name)
        return self.told(self.cover(most), lambda leaf: [span for span in leaf[3] if self.home[span[0]][0] <= place]
                         if name in leaf[4] else None)

    def ending(self, row, most):
        log = self.straight({(question, thing): answer for question, thing, answer in row})
        known = {tuple(row[1:3]): row[3] for row in log if row[0] == "ask"}
        ranks = [(rank_of(self.kinds[row[1]], row[3]), place[1:]) for row, place in zip(log, self.placed(log))
                 if row[0] == "ask"]
        nodes = self.cover(most, {place: (rank, rank) for rank, place in ranks})
        return self.told(nodes, lambda leaf: leaf[3] if ("end",) in leaf[2] else None, known)

    @staticmethod
    def asked_ahead(leaf, word, name):
        """The ranges of what a leaf asks ahead of a row so begun, or None where it has none."""
        begun = [row[:2] for row in leaf[2]]
        if (word, name) not in begun:
            return None
        return leaf[3][:len([row for row in begun[:begun.index((word, name))] if row[0] == "ask"])]

    def told(self, nodes, ranges_of, known=()):
        for leaf in nodes:
            if leaf[0] == "leaf" and ranges_of(leaf) is not None:
                return "row", self.row_by(ranges_of(leaf), dict(known))
        return "unknown" if any(node[:2] == ("leaf", False) for node in nodes) else "shut", nodes

    def row_by(self, ranges, known):
        """The answers of these ranges, one behind the other put where the straight going by those ahead is open."""
        book = {}
        for question, _, low, _ in ranges:
            word, asked, thing = self.straight(book)[-1]
            assert (word, asked) == ("open", question)
            book[asked, thing] = known.get((asked, thing), self.kinds[asked].sample(low))
        return [(*key, answer) for key, answer in book.items()]


def plain_run(pages, book):
    """A run as the document tells of it, page by page."""
    number, place, thing, asked, log = 0, None, None, [], []
    while True:
        word, *rest = pages[number]
        if word == "ask":
            question, kind, each, number = rest
            here = "" if each is None else thing
            answer = book.get((question, here))
            if not is_answer(kind_of(kind), answer):
                return log + [("open", question, here)]
            log.append(("ask", question, here, answer))
            asked.append((question, here, answer, rank_of(kind_of(kind), answer)))
        elif word == "compare":
            question, own, how, compared, yes, no = rest
            ranks = [row[3] for row in asked if row[:2] == (question, thing if own else "")]
            number = yes if ranks and compared_so(ranks[0], how, compared) else no
        elif word == "total":
            terms, plus, how, compared, yes, no = rest
            total = plus + sum(times * row[3] for times, question in terms for row in asked if row[0] == question)
            number = yes if compared_so(total, how, compared) else no
        elif word == "first":
            place, number = 0, rest[1]
        elif word == "more":
            question, yes, no = rest
            names = [row[2] for row in asked if row[0] == question]
            number = no
            if names and place < len(names[0]):
                number, thing = yes, names[0][place]
        elif word == "on":
            place, number = place + 1, rest[0]
        elif word == "end":
            return log + [("end",)]
        else:
            log.append((word, rest[0], "" if rest[1] is None else thing))
            if word == "held":
                return log
            number = rest[2]


def compared_so(rank, how, number):
    return {"<": rank < number, "=": rank == number, ">": rank > number}[how]
