"""What hands that take turns know of each other: how many of each other's first notes are before their next one.

It is a tuple (views, messages, marks), never changed. Views are, of each hand, three lists of how many notes of each
hand are known: told, what is before its next note; kept, what is so behind a fence that takes; given, what was so at
its last fence that gives. Messages are, of each box, such a list: what its last message lets know those that take it.
Marks are, of each box and each hand, the numbers of its last note there and of its last one there that writes, or -1.
"""

from readsfrom.notes import GIVING, TAKING, box_of, does_read, does_write, mode_of
from readsfrom.views import moved


def nothing_known(boxes, hands):
    """Tell what is known ahead of all turns."""
    none = tuple([0 for _ in hands])
    views = tuple([(none, none, none) for _ in hands])
    marks = tuple([tuple([(-1, -1) for _ in hands]) for _ in boxes])
    return (views, tuple([none for _ in boxes]), marks)


def taken(boxes, known, hand, note):
    """Tell what is known once the hand's next note read what it reads."""
    if not does_read(note):
        return known
    views, messages, marks = known
    told, kept, given = views[hand]
    message = messages[boxes.index(box_of(note))]
    if mode_of(note) in TAKING:
        told = _more(told, message)
    else:
        kept = _more(kept, message)
    return (moved(views, hand, (told, kept, given)), messages, marks)


def rival_of(boxes, known, hand, note):
    """Tell, by (hand, number), a note that clashes with the hand's next one, as taken; None where none does."""
    if note[0] == "fence":
        return None
    views, _, marks = known
    told, _, _ = views[hand]
    for other, (last, last_written) in enumerate(marks[boxes.index(box_of(note))]):
        number = last if does_write(note) else last_written
        # Where the last one is before the note, so are all ahead of it.
        if other != hand and number >= told[other]:
            return (other, number)
    return None


def passed(boxes, known, hand, note):
    """Tell what is known behind the hand's next note, as taken."""
    views, messages, marks = known
    told, kept, given = views[hand]
    number = told[hand]
    told = moved(told, hand, number + 1)
    if note[0] == "fence":
        told = _more(told, kept) if mode_of(note) in TAKING else told
        given = told if mode_of(note) in GIVING else given
        return (moved(views, hand, (told, kept, given)), messages, marks)
    box = boxes.index(box_of(note))
    _, last_written = marks[box][hand]
    marks = moved(marks, box, moved(marks[box], hand, (number, number if does_write(note) else last_written)))
    if does_write(note):
        message = told if mode_of(note) in GIVING else given
        # A change lets know what its source does, too.
        messages = moved(messages, box, _more(message, messages[box]) if does_read(note) else message)
    return (moved(views, hand, (told, kept, given)), messages, marks)


def number_of_next(known, hand):
    """Tell how many notes the hand has."""
    views, _, _ = known
    told, _, _ = views[hand]
    return told[hand]


def _more(known, other):
    return tuple([max(one, two) for one, two in zip(known, other)])
