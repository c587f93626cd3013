"""All refusals of the program, each under AskError and none under another one."""


class AskError(ValueError):
    """Any refusal."""


class NoNumber(AskError):
    """What is no written number."""


class NoAnswer(AskError):
    """What writes no answer of a kind."""


class NoKind(AskError):
    """What writes no kind."""


class NoSum(AskError):
    """What writes no sum."""


class NoSaying(AskError):
    """What writes no saying."""


class NoRow(AskError):
    """A row of a paper's text that is none, or can't stand there."""

    def __init__(self, row):
        AskError.__init__(self, f"row {row} of the paper is none, or can't stand there")
        self.row = row


class Twice(AskError):
    """A name that is given twice."""

    def __init__(self, name):
        AskError.__init__(self, f"{name} is given twice")
        self.name = name


class Unknown(AskError):
    """A name that nothing bears."""

    def __init__(self, name):
        AskError.__init__(self, f"there is no {name}")
        self.name = name


class WrongKind(AskError):
    """A name of something whose kind doesn't suit."""

    def __init__(self, name):
        AskError.__init__(self, f"{name} is of a kind that doesn't suit")
        self.name = name


class NoWay(AskError):
    """A target to which no way can lead."""

    def __init__(self, name):
        AskError.__init__(self, f"no way can lead to {name}")
        self.name = name


class OutOfReach(AskError):
    """A name that isn't in reach where it stands."""

    def __init__(self, name):
        AskError.__init__(self, f"{name} isn't in reach")
        self.name = name


class Ring(AskError):
    """Sums that come back to themselves."""

    def __init__(self, ring):
        AskError.__init__(self, "sums come back to themselves: " + ", ".join(ring))
        self.ring = list(ring)


class Nowhere(AskError):
    """There is no question where the hand would be or go."""


class NotYet(AskError):
    """The question at the finger has no answer yet."""


class NotCome(AskError):
    """The going has no such question and thing."""


class NoLeft(AskError):
    """A row of what a hand left that is none."""

    def __init__(self, row):
        AskError.__init__(self, f"row {row} of what was left is none")
        self.row = row


class NoLine(AskError):
    """What is no line of a printed paper."""


class NoSay(AskError):
    """What can't be said to a desk."""
