"""Notes and deeds called by (hand, number), as they are written: `0.7`."""

from readsfrom.programs import HAND_DEEDS
from readsfrom.programtexts import FIGURES


def shown_call(call):
    hand, number = call
    return f"{hand}.{number}"


def read_call(word, hands):
    """Tell the call that the word writes, of one of so many hands; None where it writes none."""
    first, _, second = word.partition(".")
    hand, number = read_figure(first, hands), read_figure(second, HAND_DEEDS)
    return None if hand is None or number is None else (hand, number)


def read_figure(word, many):
    """Tell the number below so many that the word writes in one figure; None where it writes none."""
    return FIGURES.index(word) if len(word) == 1 and word in FIGURES[:many] else None
