"""Things that several tests hand in, and how they hold what is told against what is like it."""

from askpaper.papers import Ask, Check
from askpaper.reading import read_paper
from askpaper.sayings import Both, Compare, Either, Is, Not

NO_TEXTS = (
    True, False, 0, 1, -7, 10 ** 59, None, 1.0, b"a", b"yes", [], ["a"], ["yes"], (), ("a",), ("yes",),
    {}, {"a": 1}, {"a"}, object(), str, len,
)
NO_NAMES = ("and", "each", "end", "is", "not", "or", "unless", "when")


def nested(atoms, word="and"):
    """The text of a saying of these atoms' texts, as shallow as can be."""
    if len(atoms) == 1:
        return atoms[0]
    half = len(atoms) // 2
    return f"( {nested(atoms[:half], word)} {word} {nested(atoms[half:], word)} )"


def saying_tree(saying):
    """All that a saying has, as tuples that can be compared."""
    if type(saying) is Is:
        return ("is", saying.name, saying.word, saying.place)
    if type(saying) is Compare:
        return ("compare", saying.name, saying.how, saying.number)
    if type(saying) is Not:
        return ("not", saying_tree(saying.test))
    if type(saying) is Both:
        return ("both", saying_tree(saying.one), saying_tree(saying.other))
    if type(saying) is Either:
        return ("either", saying_tree(saying.one), saying_tree(saying.other))
    raise AssertionError(f"no saying: {saying!r}")


def perhaps_tree(saying):
    return None if saying is None else saying_tree(saying)


def row_tree(row):
    if type(row) is Ask:
        return ("ask", row.name, type(row.kind).__name__, row.kind.told(), perhaps_tree(row.when))
    if type(row) is Check:
        return ("check", row.name, saying_tree(row.test), row.firm)
    raise AssertionError(f"no row: {row!r}")


def sheet_tree(sheet):
    rows = [row_tree(row) for row in sheet.rows]
    ways = [(target, perhaps_tree(saying)) for target, saying in sheet.ways]
    return ("sheet", sheet.name, sheet.each, rows, ways)


def paper_tree(paper):
    """All that a paper has, as tuples and lists that can be compared."""
    totals = [(name, list(parts)) for name, parts in paper.totals]
    return ("paper", paper.name, [sheet_tree(sheet) for sheet in paper.sheets], totals)


def paper_of(*rows):
    """A paper of these rows of text behind its own."""
    return read_paper("\n".join(("paper p",) + rows))
