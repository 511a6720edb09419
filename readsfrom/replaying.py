"""Hands played again by the notes of a drawing."""

from readsfrom.errors import NoHand
from readsfrom.forms import is_from_to, is_list, is_pair
from readsfrom.graphs import Graph
from readsfrom.notes import (
    box_of, calls_in, does_read, does_write, is_note, note_at, number_read, number_written, source_of,
)
from readsfrom.programs import look_at
from readsfrom.ways import begun, can_read, gone_on, is_reading, next_deed, note_of, state_on


def is_drawing(program, thing):
    """Tell whether the thing is a drawing of the program."""
    look_at(program)
    boxes, hands = program
    if not isinstance(thing, Graph):
        return False
    lines, rows = thing.lines(), thing.rows()
    if not _are_lists(lines, len(hands)) or not _are_lists(rows, len(boxes)):
        return False
    if not all([is_note(boxes, note) for line in lines for note in line]):
        return False
    return _are_done(hands, lines) and _have_sources(lines) and _have_writers(boxes, lines, rows)


def state_of(program, graph, hand):
    """Tell of a drawing the hand's word, the number of the deed at which it stands, and its registers."""
    look_at(program)
    _, hands = program
    if not is_from_to(hand, 0, len(hands) - 1):
        raise NoHand(hand)
    deeds = hands[hand]
    way = begun(deeds)
    for note in graph.lines()[hand]:
        way = gone_on(deeds, way, number_read(note))
    return state_on(deeds, way)


def _are_lists(thing, many):
    return is_list(thing, many, many) and all([isinstance(one, list) for one in thing])


def _are_done(hands, lines):
    return all([_is_done(deeds, line) for deeds, line in zip(hands, lines)])


def _is_done(deeds, line):
    """Tell whether the line is what a hand of these deeds does."""
    way = begun(deeds)
    for note in line:
        deed = next_deed(way)
        if deed is None or not _makes(deed, way, note):
            return False
        way = gone_on(deeds, way, number_read(note))
    return True


def _makes(deed, way, note):
    """Tell whether the deed, next on this way, makes the note."""
    number = number_read(note)
    if is_reading(deed) != does_read(note) or not can_read(deed, number):
        return False
    _, registers, _ = way
    return note == note_of(deed, registers, number, source_of(note))


def _have_sources(lines):
    return all([_has_source(lines, note) for line in lines for note in line if does_read(note)])


def _has_source(lines, note):
    """Tell whether the number was read of the note's source."""
    source = source_of(note)
    if source is None:
        return number_read(note) == 0
    hand, number = source
    if not 0 <= hand < len(lines) or not 0 <= number < len(lines[hand]):
        return False
    read = lines[hand][number]
    return does_write(read) and box_of(read) == box_of(note) and number_written(read) == number_read(note)


def _have_writers(boxes, lines, rows):
    """Tell whether each row has just the notes that write to its box, each once."""
    if not all([is_pair(call) for row in rows for call in row]):
        return False
    return all([sorted(row) == _writers(lines, box) for box, row in zip(boxes, rows)])


def _writers(lines, box):
    calls = [call for call in calls_in(lines) if does_write(note_at(lines, call))]
    return [call for call in calls if box_of(note_at(lines, call)) == box]
