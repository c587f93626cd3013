"""Pages: a paper made to a machine that goes from page to page."""

from askpaper.looks import eaches_of, kinds_of, put_together
from askpaper.papers import Ask
from askpaper.sayings import Both, Either, Is, Not

# How many numbers of pages stand last in a page, by its first word.
LEADS = {"ask": 1, "compare": 2, "total": 2, "first": 1, "more": 2, "on": 1, "pass": 1, "warn": 1, "held": 0, "end": 0}


def without_leads(page):
    """Tell what a page has ahead of the numbers of other pages."""
    return page[:len(page) - LEADS[page[0]]]


def leads_of(page):
    """Tell the numbers of the pages to which a page leads."""
    return page[len(page) - LEADS[page[0]]:]


class PageMaker:
    """Makes pages from the end on, as each page tells the numbers of those behind it."""

    def __init__(self, paper):
        self.paper = paper
        self.kinds = kinds_of(paper)
        self.eaches = eaches_of(paper)
        self.made = []

    def put(self, page):
        """Put a page and tell its number."""
        self.made.append(page)
        return len(self.made) - 1

    def put_atom(self, atom, yes, no):
        """Put the page of a settled atom."""
        how = "=" if isinstance(atom, Is) else atom.how
        number = atom.place if isinstance(atom, Is) else atom.number
        if atom.name in self.kinds:
            own = self.eaches[atom.name] is not None
            return self.put(("compare", atom.name, own, how, number, yes, no))
        together = put_together(self.paper, atom.name)
        return self.put(("total", together[0], together[1], how, number, yes, no))

    def put_settled(self, saying, yes, no):
        """Put the pages of a settled saying, which lead to yes where it holds, else to no; tell the first one."""
        if isinstance(saying, Not):
            return self.put_settled(saying.test, no, yes)
        if isinstance(saying, Both):
            return self.put_settled(saying.one, self.put_settled(saying.other, yes, no), no)
        if isinstance(saying, Either):
            return self.put_settled(saying.one, yes, self.put_settled(saying.other, yes, no))
        return self.put_atom(saying, yes, no)

    def put_saying(self, saying, yes, no):
        """Put the pages of a saying likewise; without one, it is yes."""
        return yes if saying is None else self.put_settled(saying.settled(self.kinds), yes, no)

    def put_row(self, row, each, behind):
        """Put the pages of a question or a check, with a page behind them; tell the first one."""
        if isinstance(row, Ask):
            asking = self.put(("ask", row.name, row.kind.told(), each, behind))
            return self.put_saying(row.when, asking, behind)
        passing = self.put(("pass", row.name, each, behind))
        failing = self.put(("held", row.name, each) if row.firm else ("warn", row.name, each, behind))
        return self.put_saying(row.test, passing, failing)

    def put_rows(self, sheet, behind):
        """Put the pages of all rows of a sheet likewise."""
        for row in reversed(sheet.rows):
            behind = self.put_row(row, sheet.each, behind)
        return behind

    def put_things(self, sheet, behind):
        """Put the pages of a sheet that comes again likewise."""
        # Its number is needed by pages whose numbers it needs itself, so it stands empty until then.
        more = self.put(None)
        body = self.put_rows(sheet, self.put(("on", more)))
        self.made[more] = ("more", sheet.each, body, behind)
        return self.put(("first", sheet.each, more))

    def put_sheet(self, sheet, starts, behind):
        """Put the pages of a sheet; starts tell the first pages of the targets of its ways."""
        for target, saying in reversed(sheet.ways):
            behind = self.put_saying(saying, starts[target], behind)
        # For a sheet that has no rows, going through its things does nothing.
        if sheet.each is None or len(sheet.rows) == 0:
            return self.put_rows(sheet, behind)
        return self.put_things(sheet, behind)

    def put_all(self):
        """Put the pages of all sheets; tell the first one."""
        start = self.put(("end",))
        starts = {"end": start}
        for sheet in reversed(self.paper.sheets):
            start = self.put_sheet(sheet, starts, start)
            starts[sheet.name] = start
        return start


def reached_from(pages, start):
    """List the numbers of all pages that are come to from one, that one first."""
    found = [start]
    walked = 0
    while walked < len(found):
        for number in leads_of(pages[found[walked]]):
            if number not in found:
                found.append(number)
        walked += 1
    return found


def pages_of(paper):
    """Make a paper to pages."""
    maker = PageMaker(paper)
    start = maker.put_all()
    # Behind a way without a saying there may be ways and sheets to which nothing leads.
    found = reached_from(maker.made, start)
    numbers = dict([(number, place) for place, number in enumerate(found)])
    pages = []
    for number in found:
        page = maker.made[number]
        pages.append(without_leads(page) + tuple([numbers[lead] for lead in leads_of(page)]))
    return pages
