"""The looker: it goes all ways at once, by the leaves of a cover, and tells a row of answers that comes somewhere."""

from askpaper.cover import cover
from askpaper.going import straight
from askpaper.looks import eaches_of, kinds_of


def row_of(paper, ranges, known):
    """Make a row of answers by the first ranges of a leaf; known answers, by question and place, stay as they are."""
    kinds = kinds_of(paper)
    eaches = eaches_of(paper)
    # The last answer in the row to each question; one by which a sheet comes again is asked just once.
    answers = {}
    row = []
    for question, k, low, high in ranges:
        each = eaches[question]
        answers[question] = known.get((question, k), kinds[question].sample(low))
        row.append((question, "" if each is None else answers[each][k], answers[question]))
    return row


def told_by(paper, nodes, known, asked_ahead):
    """Tell the row of the first leaf that comes there; asked_ahead tells how much a leaf asks ahead, or None."""
    leaves = [node for node in nodes if node[0] == "leaf"]
    for leaf in leaves:
        count = asked_ahead(leaf)
        if count is not None:
            return ("row", row_of(paper, leaf[3][:count], known))
    return ("shut" if all([leaf[1] for leaf in leaves]) else "unknown", nodes)


def asked_ahead_of(log, word, name):
    """Tell how much a log asks ahead of the first row with this word and name; None where it has none."""
    count = 0
    for row in log:
        if row[:2] == (word, name):
            return count
        if row[0] == "ask":
            count += 1
    return None


def come_to(paper, question, most=64):
    """Tell a row of answers by which the straight going is open at a question."""
    return told_by(paper, cover(paper, most), {}, lambda leaf: asked_ahead_of(leaf[2], "ask", question))


def met(paper, check, most=64):
    """Tell a row of answers by which the straight going passes a check."""
    return told_by(paper, cover(paper, most), {}, lambda leaf: asked_ahead_of(leaf[2], "pass", check))


def names_up_to(paper, sheet):
    """List the names of all rows of a sheet and of those ahead of it."""
    names = []
    for other in paper.sheets:
        names.extend([row.name for row in other.rows])
        if other.name == sheet:
            break
    return names


def two_ways(paper, sheet, most=64):
    """Tell a row of answers by which two ways out of a sheet hold."""
    # A going takes the sheets in their order, so what it asks ahead of the ways stands up to there.
    names = names_up_to(paper, sheet)

    def asked_ahead(leaf):
        return len([span for span in leaf[3] if span[0] in names]) if sheet in leaf[4] else None

    return told_by(paper, cover(paper, most), {}, asked_ahead)


def counting(paper, row):
    """Tell those answers of a row that count in the straight going by them, by question and place."""
    book = dict([((question, thing), answer) for question, thing, answer in row])
    eaches = eaches_of(paper)
    known = {}
    for log_row in straight(paper, book):
        if log_row[0] == "ask":
            each = eaches[log_row[1]]
            k = 0 if each is None else book[(each, "")].index(log_row[2])
            known[(log_row[1], k)] = log_row[3]
    return known


def ending(paper, row, most=64):
    """Tell a row of answers by which the straight going comes to its end, with those that count of this row."""
    kinds = kinds_of(paper)
    known = counting(paper, row)
    fixed = {}
    for key, answer in known.items():
        rank = kinds[key[0]].rank(answer)
        fixed[key] = (rank, rank)
    comes_to_end = lambda leaf: len(leaf[3]) if leaf[2][-1:] == [("end",)] else None
    return told_by(paper, cover(paper, most, fixed), known, comes_to_end)
