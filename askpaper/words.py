"""Whole numbers, names and written numbers."""

from askpaper.errors import NoNumber

LETTERS = "abcdefghijklmnopqrstuvwxyz"
FIGURES = "0123456789"
LONGEST_NAME = 12
NO_NAMES = ("and", "each", "end", "is", "not", "or", "unless", "when")


def is_whole(thing):
    """Tell whether a thing is a whole number; True and False are none."""
    return isinstance(thing, int) and not isinstance(thing, bool)


def is_name(thing):
    """Tell whether a thing is a name."""
    if not isinstance(thing, str) or thing in NO_NAMES:
        return False
    return 1 <= len(thing) <= LONGEST_NAME and all([sign in LETTERS for sign in thing])


def are_unlike_names(words):
    """Tell whether all of a list or tuple are names, none of them twice."""
    return all([is_name(word) for word in words]) and len(set(words)) == len(words)


def are_figures(text):
    """Tell whether a text is one or more figures and nothing else."""
    return len(text) > 0 and all([sign in FIGURES for sign in text])


def figures_worth(figures):
    """Work out the whole number that a text of figures writes."""
    # Not by int: how many figures that takes is a setting of Python's.
    worth = 0
    for sign in figures:
        worth = worth * 10 + FIGURES.find(sign)
    return worth


def number_of(text, most=60):
    """Read a written number of at most so many figures."""
    if not isinstance(text, str):
        raise NoNumber("what is no text writes no number")
    if text == "0":
        return 0
    below = text.startswith("-")
    figures = text[1:] if below else text
    if not are_figures(figures) or figures[0] == "0" or len(figures) > most:
        raise NoNumber(f"no written number: {text!r}")
    worth = figures_worth(figures)
    return -worth if below else worth


def number_or_none(text):
    """Read a written number; None where it is none."""
    try:
        return number_of(text)
    except NoNumber:
        return None
