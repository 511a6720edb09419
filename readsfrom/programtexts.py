"""Programs written as texts, and such texts read."""

from readsfrom.errors import NoText
from readsfrom.programs import HAND_DEEDS, MOST_DEEDS, MOST_HANDS, are_boxes, is_deed, look_at

FIGURES = "0123456789"


def shown(program):
    """Tell the text of a program."""
    look_at(program)
    boxes, hands = program
    rows = [" ".join(["boxes", *boxes])]
    for deeds in hands:
        rows.append("hand")
        rows.extend([_shown_deed(deed) for deed in deeds])
    return "\n".join(rows)


def read(text):
    """Tell the program of a text; refuse all else, by its first row that can't stand."""
    if not isinstance(text, str):
        raise NoText(0)
    rows = text.split("\n")
    boxes = _read_boxes(rows[0])
    hands = []
    for number, row in enumerate(rows):
        if number > 0 and not _took_row(boxes, hands, row):
            raise NoText(number)
    # A row of boxes alone can be gone on with: a program has one hand at least.
    if len(hands) == 0:
        raise NoText(len(rows))
    return (boxes, hands)


def _shown_deed(deed):
    return " ".join([part if isinstance(part, str) else FIGURES[part] for part in deed])


def _read_boxes(row):
    words = row.split(" ")
    boxes = words[1:]
    if words[0] != "boxes" or not are_boxes(boxes):
        raise NoText(0)
    return boxes


def _took_row(boxes, hands, row):
    """Put into the hands what the row writes, where it can stand behind them; tell whether it can."""
    if row == "hand" and len(hands) < MOST_HANDS:
        hands.append([])
        return True
    deed = _read_deed(row)
    if not is_deed(boxes, deed) or not _has_room(hands):
        return False
    hands[-1].append(deed)
    return True


def _has_room(hands):
    if len(hands) == 0 or len(hands[-1]) == HAND_DEEDS:
        return False
    return sum([len(deeds) for deeds in hands]) < MOST_DEEDS


def _read_deed(row):
    """Tell the row's words, figures as numbers: a deed where they are one, some other tuple where not."""
    return tuple([_read_word(word) for word in row.split(" ")])


def _read_word(word):
    # A word of two figures is left a text, and so is in no deed; the empty word is in each text.
    if len(word) == 1 and word in FIGURES:
        return int(word)
    return word
