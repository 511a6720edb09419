"""What hands that take turns know of each other: how many of each other's first notes are before their next one.

It is told as long as no notes clashed. Then each note that reads is behind its source, or it clashes; so what fences
meet, or what is met by changes of changes, is known already by what is taken straight of a note that gives.

It is a tuple (views, messages, marks), never changed. Views are, of each hand, how many notes of each hand it knows.
Messages are, of each box, how many are known by taking its last message. Marks are, of each box and each hand, the
numbers of its last note there and of its last one there that writes, or -1.
"""

from readsfrom.notes import GIVING, TAKING, box_of, does_read, does_write, mode_of
from readsfrom.views import moved


def nothing_known(boxes, hands):
    """Tell what is known ahead of all turns."""
    marks = tuple([tuple([(-1, -1) for _ in hands]) for _ in boxes])
    return (tuple([_nothing(hands) for _ in hands]), tuple([_nothing(hands) for _ in boxes]), marks)


def taken(boxes, known, hand, note):
    """Tell what is known once the hand's next note took what it reads."""
    views, messages, marks = known
    if not does_read(note) or mode_of(note) not in TAKING:
        return known
    message = messages[boxes.index(box_of(note))]
    view = tuple([max(one, two) for one, two in zip(views[hand], message)])
    return (moved(views, hand, view), messages, marks)


def does_clash(boxes, known, hand, note):
    """Tell whether the hand's next note, as taken, clashes with one ahead of it."""
    if note[0] == "fence":
        return False
    views, _, marks = known
    for many, (last, last_written) in zip(views[hand], marks[boxes.index(box_of(note))]):
        # Where a hand's last note there is known so are all ahead of it; and each hand knows its own.
        if (last if does_write(note) else last_written) >= many:
            return True
    return False


def passed(boxes, known, hand, note):
    """Tell what is known behind the hand's next note, as taken."""
    views, messages, marks = known
    number = views[hand][hand]
    view = moved(views[hand], hand, number + 1)
    views = moved(views, hand, view)
    if note[0] == "fence":
        return (views, messages, marks)
    box = boxes.index(box_of(note))
    _, last_written = marks[box][hand]
    marks = moved(marks, box, moved(marks[box], hand, (number, number if does_write(note) else last_written)))
    if does_write(note):
        messages = moved(messages, box, view if mode_of(note) in GIVING else _nothing(view))
    return (views, messages, marks)


def _nothing(hands):
    return tuple([0 for _ in hands])
