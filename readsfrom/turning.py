"""Turns: each reading reads what was written last, and each write stands last.

Where hands take turns, what comes hangs on the ways of the hands and the last numbers of the boxes alone. So a stand is
a tuple of these two, both tuples. It is never changed.
"""

from readsfrom.notes import box_of, number_written
from readsfrom.views import moved
from readsfrom.ways import begun, box_in, can_read, gone_on, is_reading, next_deed, note_of, state_on


def first_stand(program):
    """Tell the stand ahead of all turns."""
    boxes, hands = program
    return (tuple([begun(deeds) for deeds in hands]), tuple([0 for _ in boxes]))


def turn_of(program, stand, hand):
    """Tell the note of the hand's turn, its source left out, and the stand behind; None where it can't go on."""
    boxes, hands = program
    ways, numbers = stand
    deed = next_deed(ways[hand])
    if deed is None:
        return None
    number = numbers[boxes.index(box_in(deed))] if is_reading(deed) else None
    if not can_read(deed, number):
        return None
    _, registers, _ = ways[hand]
    note = note_of(deed, registers, number, None)
    if number_written(note) is not None:
        numbers = moved(numbers, boxes.index(box_of(note)), number_written(note))
    return (note, (moved(ways, hand, gone_on(hands[hand], ways[hand], number)), numbers))


def states_at(program, stand):
    """Tell the states of the hands."""
    _, hands = program
    ways, _ = stand
    return [state_on(deeds, way) for deeds, way in zip(hands, ways)]


def key_of(program, stand):
    """Tell what is the same just of the same stand, and can be a key."""
    _, numbers = stand
    return (tuple([(at, tuple(told)) for _, at, told in states_at(program, stand)]), numbers)
