"""Looks: what the names of a paper stand for, how its sums are put together, and whether it is sound."""

from askpaper.errors import NoWay, OutOfReach, Ring, Twice, Unknown, WrongKind
from askpaper.kinds import Names, Pick
from askpaper.papers import Ask


def kinds_of(paper):
    """Tell the kind of each question by its name."""
    kinds = {}
    for sheet in paper.sheets:
        for row in sheet.rows:
            if isinstance(row, Ask):
                kinds[row.name] = row.kind
    return kinds


def eaches_of(paper):
    """Tell of each question the one by which its sheet comes again, or None."""
    eaches = {}
    for sheet in paper.sheets:
        for row in sheet.rows:
            if isinstance(row, Ask):
                eaches[row.name] = sheet.each
    return eaches


def gathered(totals, name, known):
    """Gather how often each question comes in a sum, in the order in which they come first; None stands for 1."""
    # A question whose times come to 0 stays, as it may come once more in a sum that has this one among its parts.
    # What was gathered is kept in known: taken anew each time, sums in sums in sums would come to thousands.
    if name not in known:
        often = {}
        for times, part in totals[name]:
            inner = gathered(totals, part, known) if part in totals else {part: 1}
            for question, inner_times in inner.items():
                often[question] = often.get(question, 0) + times * inner_times
        known[name] = often
    return known[name]


def questions_of(paper, name):
    """List the questions in a sum, each once, as they come first, sums taken in place."""
    return [question for question in gathered(dict(paper.totals), name, {}) if question is not None]


def put_together(paper, name):
    """Put a sum together to its terms, tuples (times, question), and its number."""
    often = gathered(dict(paper.totals), name, {})
    terms = [(times, question) for question, times in often.items() if question is not None and times != 0]
    return (terms, often.get(None, 0))


def names_given(paper):
    """List the names of all sheets, questions, checks and sums in the order of the text."""
    names = []
    for sheet in paper.sheets:
        names.append(sheet.name)
        names.extend([row.name for row in sheet.rows])
    return names + [name for name, parts in paper.totals]


def look_for_twice(paper):
    """The first round."""
    given = {}
    for name in names_given(paper):
        if name in given:
            raise Twice(name)
        given[name] = True


def saying_of(row):
    """Tell the saying of a question or a check; None where it has none."""
    return row.when if isinstance(row, Ask) else row.test


def atoms_of(saying):
    """List the atoms of a saying, or of None."""
    return [] if saying is None else saying.atoms()


def look_at_each(each, kinds):
    """Refuse what is no question by which a sheet can come again."""
    if each not in kinds:
        raise Unknown(each)
    if not isinstance(kinds[each], Names):
        raise WrongKind(each)


def look_at_atoms(saying, kinds, totals):
    """Refuse the first atom whose name is unknown or doesn't suit."""
    for atom in atoms_of(saying):
        if atom.name not in kinds and atom.name not in totals:
            raise Unknown(atom.name)
        atom.settled(kinds)


def look_at_parts(parts, kinds, totals):
    """Refuse the first part of a sum whose name is unknown or doesn't suit."""
    for times, name in parts:
        if name is not None and name not in kinds and name not in totals:
            raise Unknown(name)
        if name in kinds and isinstance(kinds[name], Pick):
            raise WrongKind(name)


def look_at_names(paper):
    """The second round."""
    kinds = kinds_of(paper)
    totals = dict(paper.totals)
    for place, sheet in enumerate(paper.sheets):
        if sheet.each is not None:
            look_at_each(sheet.each, kinds)
        for row in sheet.rows:
            look_at_atoms(saying_of(row), kinds, totals)
        targets = ["end"] + [later.name for later in paper.sheets[place + 1:]]
        for target, saying in sheet.ways:
            if target not in targets:
                raise NoWay(target)
            look_at_atoms(saying, kinds, totals)
    for name, parts in paper.totals:
        look_at_parts(parts, kinds, totals)


def sums_in(parts, totals):
    """List those parts' names that are among these sums."""
    return [name for times, name in parts if name in totals]


def look_for_ring(paper):
    """The third round."""
    totals = dict(paper.totals)
    # Without those that have no sum among their parts, over and over, just what leads into a ring is left.
    for turn in range(len(paper.totals)):
        totals = dict([(name, parts) for name, parts in totals.items() if len(sums_in(parts, totals)) > 0])
    if len(totals) == 0:
        return
    path = []
    name = list(totals)[0]
    while name not in path:
        path.append(name)
        name = sums_in(totals[name], totals)[0]
    raise Ring(path[path.index(name):])


class Reach:
    """What is in reach; spots tell of each question the place of its sheet and its own place there."""

    def __init__(self, paper):
        self.paper = paper
        self.spots = {}
        for place, sheet in enumerate(paper.sheets):
            for spot, row in enumerate(sheet.rows):
                if isinstance(row, Ask):
                    self.spots[row.name] = (place, spot)

    def comes_again(self, question):
        """Tell whether the sheet of a question comes again."""
        return self.paper.sheets[self.spots[question][0]].each is not None

    def is_within(self, question, here):
        """Tell whether a question stands in the same sheet as what is here, and that is a row and no way."""
        return self.spots[question][0] == here[0] and here[1] < len(self.paper.sheets[here[0]].rows)

    def reaches_question(self, question, here):
        """Tell whether a question is in reach; ways stand here behind all rows of their sheet."""
        known = self.is_within(question, here) or not self.comes_again(question)
        return self.spots[question] < here and known

    def reaches_sum(self, name, here):
        """Tell whether a sum is in reach."""
        for question in questions_of(self.paper, name):
            midway = self.is_within(question, here) and self.comes_again(question)
            if midway or not self.spots[question] < here:
                return False
        return True

    def look_at_saying(self, saying, here):
        """Refuse the first atom whose name isn't in reach."""
        for atom in atoms_of(saying):
            is_question = atom.name in self.spots
            if not (self.reaches_question(atom.name, here) if is_question else self.reaches_sum(atom.name, here)):
                raise OutOfReach(atom.name)

    def look_at_sheet(self, place):
        """Refuse the first name in a sheet that isn't in reach."""
        sheet = self.paper.sheets[place]
        if sheet.each is not None and not self.reaches_question(sheet.each, (place, 0)):
            raise OutOfReach(sheet.each)
        sayings = [saying_of(row) for row in sheet.rows] + [saying for target, saying in sheet.ways]
        for spot, saying in enumerate(sayings):
            self.look_at_saying(saying, (place, spot))


def look_for_reach(paper):
    """The fourth round."""
    reach = Reach(paper)
    for place in range(len(paper.sheets)):
        reach.look_at_sheet(place)


def look_at(paper):
    """Look at a paper in four rounds; refused where it isn't sound."""
    look_for_twice(paper)
    look_at_names(paper)
    look_for_ring(paper)
    look_for_reach(paper)
