"""Papers as texts: how they are written and read."""

from askpaper.addings import read_sum, shown_sum
from askpaper.errors import NoKind, NoRow, NoSaying, NoSum
from askpaper.kinds import kind_of
from askpaper.papers import Ask, Check, Paper, Sheet
from askpaper.sayings import read_saying
from askpaper.words import is_name

MOST_ROWS = 100
MOST_ATOMS = 60
MOST_SHEETS = 12
MOST_WAYS = 4
MOST_TOTALS = 12


def shown_when(saying):
    """Write when something is so; nothing where there is no saying."""
    return "" if saying is None else " when " + saying.shown()


def shown_row(row):
    """Write a question or a check."""
    if isinstance(row, Ask):
        return "ask " + row.name + " " + row.kind.told() + shown_when(row.when)
    return ("refuse " if row.firm else "warn ") + row.name + " unless " + row.test.shown()


def shown_sheet(sheet):
    """Write a sheet as a list of rows of text."""
    each = "" if sheet.each is None else " each " + sheet.each
    rows = [shown_row(row) for row in sheet.rows]
    ways = ["way " + target + shown_when(saying) for target, saying in sheet.ways]
    return ["sheet " + sheet.name + each] + rows + ways


def shown_paper(paper):
    """Write a paper."""
    lines = ["paper " + paper.name]
    for sheet in paper.sheets:
        lines.extend(shown_sheet(sheet))
    lines.extend(["sum " + name + " " + shown_sum(parts) for name, parts in paper.totals])
    return "\n".join(lines)


class Draft:
    """What was read of a paper so far, and the place of the row that is read next."""

    def __init__(self):
        self.name = None
        self.sheets = []
        self.totals = []
        self.atoms_read = 0
        self.place = 0

    def demand(self, so):
        """Refuse the row that is being read, unless this is so."""
        if not so:
            raise NoRow(self.place)

    def read_test(self, text):
        """Read a saying and count its atoms."""
        saying = read_saying(text)
        self.atoms_read += len(saying.atoms())
        self.demand(self.atoms_read <= MOST_ATOMS)
        return saying

    def read_when(self, parted):
        """Read the saying of a text that is parted at the word when; None where it hasn't that word."""
        return None if parted[1] == "" else self.read_test(parted[2])

    def sheet_to_fill(self):
        """Tell the sheet to which the row that is being read belongs."""
        self.demand(len(self.sheets) > 0 and len(self.totals) == 0)
        return self.sheets[-1]

    def put_row(self, row):
        """Put a question or a check into its sheet."""
        sheet = self.sheet_to_fill()
        self.demand(len(sheet.ways) == 0)
        sheet.rows.append(row)

    def take_paper(self, rest):
        self.demand(is_name(rest))
        self.name = rest

    def take_sheet(self, rest):
        parted = rest.partition(" each ")
        again = parted[1] != ""
        self.demand(is_name(parted[0]) and (is_name(parted[2]) or not again))
        self.demand(len(self.totals) == 0 and len(self.sheets) < MOST_SHEETS)
        self.sheets.append(Sheet(parted[0], parted[2] if again else None, [], []))

    def take_ask(self, rest):
        parted = rest.partition(" when ")
        named = parted[0].partition(" ")
        self.demand(is_name(named[0]))
        self.put_row(Ask(named[0], kind_of(named[2]), self.read_when(parted)))

    def take_check(self, rest, firm):
        parted = rest.partition(" unless ")
        self.demand(is_name(parted[0]))
        self.put_row(Check(parted[0], self.read_test(parted[2]), firm))

    def take_way(self, rest):
        parted = rest.partition(" when ")
        self.demand(parted[0] == "end" or is_name(parted[0]))
        sheet = self.sheet_to_fill()
        self.demand(len(sheet.ways) < MOST_WAYS)
        sheet.ways.append((parted[0], self.read_when(parted)))

    def take_sum(self, rest):
        named = rest.partition(" ")
        self.demand(is_name(named[0]))
        self.demand(len(self.sheets) > 0 and len(self.totals) < MOST_TOTALS)
        self.totals.append((named[0], read_sum(named[2])))

    def take_row(self, first, rest):
        """Take in the row that has this first word and this rest behind it."""
        self.demand(self.place < MOST_ROWS)
        self.demand((first == "paper") == (self.place == 0))
        if first == "paper":
            self.take_paper(rest)
        elif first == "sheet":
            self.take_sheet(rest)
        elif first == "ask":
            self.take_ask(rest)
        elif first == "refuse" or first == "warn":
            self.take_check(rest, first == "refuse")
        elif first == "way":
            self.take_way(rest)
        else:
            self.demand(first == "sum")
            self.take_sum(rest)

    def take_line(self, line):
        """Take in the next row, whatever it is refused for being refused with its place."""
        parted = line.partition(" ")
        try:
            self.take_row(parted[0], parted[2])
        except (NoKind, NoSaying, NoSum):
            raise NoRow(self.place) from None
        self.place += 1


def read_paper(text):
    """Read a paper as it is written."""
    if not isinstance(text, str):
        raise NoRow(0)
    draft = Draft()
    for line in text.split("\n"):
        draft.take_line(line)
    # Only a sheet can stand in row 1, so there is none just where the text has but its first row.
    draft.demand(len(draft.sheets) > 0)
    return Paper(draft.name, draft.sheets, draft.totals)
