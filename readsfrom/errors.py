"""The refusals: each one straight under an error class of Python's own, none under another one."""


class NoProgram(ValueError):
    """What was handed in as a program is none."""

    def __init__(self, part, hand, number):
        self.part = part
        self.hand = hand
        self.number = number


class NoText(ValueError):
    """What was handed in as a text can't be read."""

    def __init__(self, row):
        self.row = row


class NoGraph(ValueError):
    """What was handed in as a graph of a program is none."""

    def __init__(self, rule):
        self.rule = rule


class NoNames(ValueError):
    """By these hands or boxes a program can't be called otherwise."""

    def __init__(self, which):
        self.which = which


class NoPicks(ValueError):
    """What was handed in as picks is none."""

    def __init__(self):
        pass


class NoRow(ValueError):
    """What was told the desk is none of its rows."""

    def __init__(self):
        pass


class NoHand(IndexError):
    """What was handed in as a hand, or as an order of hands, is none."""

    def __init__(self, hand):
        self.hand = hand


class NoNumber(IndexError):
    """What was handed in as a number is none, or is out of its bounds."""

    def __init__(self, number):
        self.number = number


class NoRun(IndexError):
    """What was handed in as a run is none."""

    def __init__(self, number):
        self.number = number


class NoStep(LookupError):
    """What was handed in as a step can't be done now."""

    def __init__(self, hand):
        self.hand = hand


class NoName(LookupError):
    """Nothing is kept by this name."""

    def __init__(self, name):
        self.name = name


class TooMany(OverflowError):
    """There are more than may be."""

    def __init__(self, many):
        self.many = many


class Bare(RuntimeError):
    """Nothing is there to be gone on from or taken back."""

    def __init__(self):
        pass
