"""Sums: their parts, what they are worth, how they are written and read."""

from askpaper.errors import NoSum
from askpaper.words import are_unlike_names, is_name, number_or_none

SIGNS = ("+", "-")
MOST_PARTS = 12


def worth(parts, look):
    """Work out what a sum is worth; look tells the worth of a name."""
    return sum([times if name is None else times * look(name) for times, name in parts])


def shown_part(times, name):
    """Write a part without its sign."""
    if name is None:
        return str(abs(times))
    return name if abs(times) == 1 else str(abs(times)) + " " + name


def shown_sum(parts):
    """Write a sum, part by part."""
    words = []
    for times, name in parts:
        if times < 0:
            words.append("-")
        elif len(words) > 0:
            words.append("+")
        words.append(shown_part(times, name))
    return " ".join(words)


def parted_at_signs(words):
    """Part words, the first of them a sign, into lists that begin with a sign each and have no other."""
    groups = []
    for word in words:
        if word in SIGNS:
            groups.append([word])
        else:
            groups[-1].append(word)
    return groups


def least_number(sign, name):
    """Tell the least number that is written behind this sign and ahead of this name."""
    # Ahead of a name a 1 is left out, and there is but one way to write a 0.
    if name is not None:
        return 2
    return 1 if sign == "-" else 0


def part_or_none(sign, words):
    """Make a part of its sign and the words behind that; None where they write none."""
    name = words[-1] if len(words) > 0 and is_name(words[-1]) else None
    numbers = words if name is None else words[:-1]
    one = -1 if sign == "-" else 1
    if name is not None and len(numbers) == 0:
        return (one, name)
    number = number_or_none(numbers[0]) if len(numbers) == 1 else None
    if number is None or number < least_number(sign, name):
        return None
    return (one * number, name)


def are_parts(parts):
    """Tell whether these (None stands for what is no part) are the parts of a sum."""
    if None in parts or len(parts) > MOST_PARTS:
        return False
    return are_unlike_names([name for times, name in parts if name is not None])


def read_sum(text):
    """Read the parts of a sum."""
    if not isinstance(text, str):
        raise NoSum("what is no text writes no sum")
    words = text.split(" ")
    signed = words if words[0] == "-" else ["+"] + words
    parts = [part_or_none(group[0], group[1:]) for group in parted_at_signs(signed)]
    if not are_parts(parts):
        raise NoSum(f"no sum: {text!r}")
    return parts
