"""What a paper has: sheets with rows and ways out, and sums."""


class Row:
    """The base of questions and checks."""

    def __init__(self, name):
        self.name = name


class Ask(Row):
    """A question: a kind of answers, and perhaps a saying when it is asked."""

    def __init__(self, name, kind, when=None):
        Row.__init__(self, name)
        self.kind = kind
        self.when = when


class Check(Row):
    """A saying that must hold; a firm check refuses, another one warns."""

    def __init__(self, name, test, firm=True):
        Row.__init__(self, name)
        self.test = test
        self.firm = firm


class Sheet:
    """Rows, and ways out as tuples (target, saying or None); each is the question by which it comes again, or None."""

    def __init__(self, name, each, rows, ways):
        self.name = name
        self.each = each
        self.rows = list(rows)
        self.ways = list(ways)


class Paper:
    """Sheets, and sums as tuples (name, parts)."""

    def __init__(self, name, sheets, totals):
        self.name = name
        self.sheets = list(sheets)
        self.totals = [(total, list(parts)) for total, parts in totals]
