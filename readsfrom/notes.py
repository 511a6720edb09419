"""Notes of what hands did to boxes, and of fences: their forms and parts. A note is called by (hand, number)."""

from readsfrom.forms import has_parts, is_worded

# Behind its first word, a note has these parts: kinds by their names, or words of which one stands there.
NOTES = {
    "read": ("box", ("plain", "loose", "taking"), "number", "source"),
    "write": ("box", ("plain", "loose", "giving"), "number"),
    "change": ("box", ("loose", "giving", "taking", "both"), "number", "number", "source"),
    "fence": (("giving", "taking", "both"),),
}

GIVING = ("giving", "both")
TAKING = ("taking", "both")


def is_note(boxes, thing):
    """Tell whether the thing has the form of a note over these boxes."""
    return is_worded(thing) and has_parts(boxes, NOTES.get(thing[0]), thing)


def does_read(note):
    return note[0] == "read" or note[0] == "change"


def does_write(note):
    return note[0] == "write" or note[0] == "change"


def box_of(note):
    """Tell the note's box, None of a fence."""
    return None if note[0] == "fence" else note[1]


def mode_of(note):
    return note[1] if note[0] == "fence" else note[2]


def number_read(note):
    """Tell the number that was read, None where none was."""
    return note[3] if does_read(note) else None


def number_written(note):
    """Tell the number that was written, None where none was."""
    if note[0] == "change":
        return note[4]
    return note[3] if note[0] == "write" else None


def source_of(note):
    """Tell by its (hand, number) the note that was read of; None of the begin, and where nothing was read."""
    return note[-1] if does_read(note) else None


def calls_in(lines):
    """Tell all notes of the lines, by their (hand, number), sorted."""
    return [(hand, number) for hand, line in enumerate(lines) for number, _ in enumerate(line)]


def note_at(lines, call):
    hand, number = call
    return lines[hand][number]
