"""Papers, books and boxes made by a seeded chance, so that each run makes the same ones."""

import random

from plain import PlainPaper

KINDS = ("yesno", "whole 0 4", "whole -3 3", "money -0.02 0.03", "pick red green", "pick red green blue",
         "names 1", "names 2", "names 2", "names 3", "names 3")
THINGS = ("a", "b", "c")
HOWS = ("<", "=", ">")


def made_atom(rng, kinds, names):
    """An atom over one of these names that suits its kind; what isn't among the kinds is a sum."""
    name = rng.choice(names)
    words = kinds.get(name, "sum").split(" ")
    if words[0] in ("yesno", "pick"):
        return f"{name} is {rng.choice(words[1:] or ['yes', 'no'])}"
    return f"{name} {rng.choice(HOWS)} {rng.randint(-3, 5) if words[0] != 'names' else rng.randint(-1, 3)}"


def made_saying(rng, kinds, names, deep=2):
    turn = rng.random()
    if deep == 0 or turn < 0.5:
        return made_atom(rng, kinds, names)
    if turn < 0.65:
        return "not " + made_saying(rng, kinds, names, deep - 1)
    one, other = [made_saying(rng, kinds, names, deep - 1) for _ in range(2)]
    return f"( {one} {rng.choice(('and', 'or'))} {other} )"


def made_sums(rng, questions, names, loose):
    """Rows of sums; without a ring, but where it is loose, as each has only sums made already among its parts."""
    rows, known = [], questions + (names if rng.random() < loose else [])
    for name in names:
        parts = rng.sample(known, min(len(known), rng.randint(0, 3)))
        written = []
        for part in parts or [None]:
            times = rng.choice((1, 1, 2, 3))
            if part is None:
                text = str(rng.randint(1, 4))
            else:
                text = part if times == 1 else f"{times} {part}"
            written.append((rng.choice("++-"), text))
        if rng.random() < 0.3:
            written.append((rng.choice("+-"), str(rng.randint(1, 3))))
        text = " ".join(f"{sign} {part}" for sign, part in written)
        rows.append(f"sum {name} " + (text[2:] if text.startswith("+") else text))
        if name not in known:
            known.append(name)
    rng.shuffle(rows)
    return rows


class Maker:
    """Makes the text of one paper, row by row."""

    def __init__(self, rng, loose):
        self.rng = rng
        # How often a name is taken whether it is in reach or not, and perhaps where none is so called.
        self.loose = loose
        self.kinds = {}

    def skeleton(self):
        """Sheets with the names and kinds of their rows, and with as many ways."""
        rng, count = self.rng, 0
        sheets = []
        for place in range(rng.choice((1, 2, 3, 3, 4, 4))):
            rows = []
            for _ in range(rng.choice((0, 1, 2, 3, 4, 4, 5, 5))):
                count += 1
                name = "q" + "abcdefghijklmnopqrstuvwxyz"[count]
                if rng.random() < 0.7:
                    self.kinds[name] = rng.choice(KINDS)
                    rows.append(("ask", name))
                else:
                    rows.append((rng.choice(("refuse", "warn", "warn")), "c" + name[1]))
            rows += [("way", None)] * rng.choice((0, 0, 0, 0, 1, 1, 2, 3))
            sheets.append(["s" + "abcd"[place], None, rows])
        return sheets

    def pick_eaches(self, sheets):
        for place, sheet in enumerate(sheets):
            able = [name for earlier in sheets[:place] if earlier[1] is None for word, name in earlier[2]
                    if word == "ask" and self.kinds[name].startswith("names")]
            if self.rng.random() < self.loose:
                able = list(self.kinds) or ["nope"]
            if able and self.rng.random() < 0.6:
                sheet[1] = self.rng.choice(able)

    def names_for(self, plain, place, spot):
        if self.rng.random() < self.loose:
            return list(self.kinds) + list(plain.parts) + ["nope", "sa"]
        return [name for name in list(self.kinds) + list(plain.parts) if plain.is_in_reach(name, place, spot)]

    def row_text(self, sheets, plain, place, spot):
        rng = self.rng
        word, name = sheets[place][2][spot]
        names = self.names_for(plain, place, spot)
        if word == "way":
            targets = [sheet[0] for sheet in sheets[place + 1:]] + ["end"]
            name = rng.choice(targets if rng.random() >= self.loose else ["sa", "sb", "end", "nope"])
        head = f"ask {name} {self.kinds[name]}" if word == "ask" else f"{word} {name}"
        if word in ("refuse", "warn"):
            if not names:
                return None
            return f"{head} unless {made_saying(rng, self.kinds, names)}"
        if names and rng.random() < (0.4 if word == "ask" else 0.8):
            return f"{head} when {made_saying(rng, self.kinds, names)}"
        return head

    def sheet_rows(self, sheet):
        """Rows that have no sayings yet, for what is in reach hangs on where rows stand alone."""
        rows = [f"sheet {sheet[0]}" + (f" each {sheet[1]}" if sheet[1] else "")]
        for word, name in sheet[2]:
            rows.append({"ask": f"ask {name} {self.kinds.get(name)}", "way": "way end"}.get(word, f"{word} {name}"))
        return rows

    def text(self):
        sheets = self.skeleton()
        self.pick_eaches(sheets)
        summed = [name for name, kind in self.kinds.items() if not kind.startswith("pick")]
        names = ["ta", "tb", "tc", "td"][:self.rng.choice((0, 1, 2, 3, 4))]
        sums = made_sums(self.rng, summed, names, self.loose)
        bare = ["paper p"] + [row for sheet in sheets for row in self.sheet_rows(sheet)] + sums
        plain = PlainPaper("\n".join(bare))
        rows = ["paper p"]
        for place, sheet in enumerate(sheets):
            rows.append(self.sheet_rows(sheet)[0])
            told = [self.row_text(sheets, plain, place, spot) for spot in range(len(sheet[2]))]
            rows += [row for row in told if row is not None]
        return "\n".join(rows + sums)


def sound_texts(count, seed):
    rng = random.Random(seed)
    return [Maker(rng, 0).text() for _ in range(count)]


def rich_texts(count, seed):
    """Texts of sound papers with many questions, some of them on sheets that come again."""
    rng, texts = random.Random(seed), []
    while len(texts) < count:
        text = Maker(rng, 0).text()
        if text.count("\nask ") > 6 and " each " in text:
            texts.append(text)
    return texts


def loose_texts(count, seed):
    """Texts of papers of which many aren't sound."""
    rng = random.Random(seed)
    return [perhaps_spoilt(rng, Maker(rng, rng.choice((0, 0.05, 0.1, 0.3))).text()) for _ in range(count)]


def perhaps_spoilt(rng, text):
    """Now and then a name is put in the stead of another one, all over the sums or in one row."""
    rows = text.split("\n")
    for _ in range(rng.choice((0, 0, 0, 1, 2))):
        place = rng.randrange(1, len(rows))
        words = rows[place].split(" ")
        # The name that a row gives, or, of a sum, its last part's.
        spot = 1 if words[0] != "sum" or rng.random() < 0.3 else len(words) - 1
        name = rng.choice(("ta", "tb", "tc", "qb", "cb", "sb", "nope"))
        # No name comes twice among the parts of a sum; a number and the end stay as they are.
        if name not in words[2:] and not words[spot].isdigit() and words[spot] != "end":
            words[spot] = name
        rows[place] = " ".join(words)
    return "\n".join(rows)


def made_answer(rng, kind):
    if kind.told() == "yesno":
        return rng.random() < 0.5
    if kind.told().startswith("names"):
        return tuple(rng.sample(THINGS, rng.randint(0, kind.high)))
    return kind.sample(rng.randint(kind.low, kind.high))


WRONG_ANSWERS = (None, "", "nope", 99, 1.0, 2.5, [], ["a"], ("a", "a"), ("end",), {"a": 1}, b"a", object)
NO_KEYS = ("", "qb", 7, None, ("qb",), ("qb", "a", "b"), ("nope", ""), ("qb", None), (3, ""), ("sa", "a"))


def made_book(rng, plain, holes):
    """A book that has answers for all things, but of these some few aren't there or are wrong."""
    book = {}
    for name, kind in plain.kinds.items():
        for thing in THINGS if plain.again(name) else ("",):
            turn = rng.random()
            if turn >= holes:
                book[name, thing] = made_answer(rng, kind)
            elif turn < holes / 2:
                book[name, thing] = rng.choice(WRONG_ANSWERS)
    if rng.random() < 0.3:
        for key in NO_KEYS:
            if key not in book:
                book[key] = True
    return book


def made_box(rng, plain, wide):
    """Ranges within the kinds' own; the wider, the oftener there is none told or a whole one."""
    box = {}
    for name, kind in plain.kinds.items():
        for k in range(3) if plain.again(name) else (0,):
            if rng.random() >= wide:
                low = rng.randint(kind.low, kind.high)
                box[name, k] = (low, rng.randint(low, kind.high) if rng.random() < wide else low)
    return box
