"""Programs: what is one, looked at part by part."""

from readsfrom.errors import NoProgram
from readsfrom.forms import has_parts, is_list, is_name, is_worded

MOST_BOXES = 4
MOST_HANDS = 4
HAND_DEEDS = 8
MOST_DEEDS = 16

# Behind its first word, a deed has these: kinds by their names, or words of which one stands there.
DEEDS = {
    "read": ("name", "box", ("plain", "loose", "taking")),
    "write": ("box", "what", ("plain", "loose", "giving")),
    "change": ("name", "box", ("add", "put"), "what", ("loose", "giving", "taking", "both")),
    "swap": ("name", "box", "number", "what", ("loose", "giving", "taking", "both")),
    "wait": ("name", "box", "number", ("plain", "loose", "taking")),
    "grab": ("name", "box", "number", "what", ("loose", "giving", "taking", "both")),
    "fence": (("giving", "taking", "both"),),
    "skip": ("name", ("is", "isnt"), "number", "many"),
    "claim": ("name", ("is", "isnt"), "number"),
}


def look_at(thing):
    """Tell None of a program; refuse all else, by its first fault."""
    if not isinstance(thing, tuple) or len(thing) != 2:
        raise NoProgram("program", None, None)
    boxes, hands = thing
    _look_at_boxes(boxes)
    _look_at_hands(hands)
    _look_at_deeds(boxes, hands)


def is_deed(boxes, thing):
    """Tell whether the thing is a deed over these boxes."""
    return is_worded(thing) and has_parts(boxes, DEEDS.get(thing[0]), thing)


def are_boxes(thing):
    """Tell whether the thing can stand as a program's boxes."""
    return is_list(thing, 1, MOST_BOXES) and _wrong_box(thing) is None


def _wrong_box(boxes):
    """Tell the number of the first thing that can't stand in its place, None where all can."""
    for number, box in enumerate(boxes):
        if not is_name(box):
            return number
        # Those ahead rise, so one that stood ahead is not above the last of them.
        if number > 0 and box <= boxes[number - 1]:
            return number
    return None


def _look_at_boxes(boxes):
    if not is_list(boxes, 1, MOST_BOXES):
        raise NoProgram("boxes", None, None)
    number = _wrong_box(boxes)
    if number is not None:
        raise NoProgram("boxes", None, number)


def _look_at_hands(hands):
    if not is_list(hands, 1, MOST_HANDS):
        raise NoProgram("hands", None, None)
    for number, hand in enumerate(hands):
        if not is_list(hand, 0, HAND_DEEDS):
            raise NoProgram("hands", number, None)


def _look_at_deeds(boxes, hands):
    for hand, deeds in enumerate(hands):
        for number, deed in enumerate(deeds):
            if not is_deed(boxes, deed):
                raise NoProgram("deeds", hand, number)
    if sum([len(deeds) for deeds in hands]) > MOST_DEEDS:
        raise NoProgram("deeds", None, None)
