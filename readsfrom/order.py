"""Which notes of a drawing are before which."""

from readsfrom.notes import GIVING, TAKING, calls_in, mode_of, note_at, source_of
from readsfrom.programs import look_at


def before(program, graph):
    """Tell all pairs of notes of a drawing of which the first is before the second, sorted."""
    look_at(program)
    lines = graph.lines()
    return led_pairs(lines, line_steps(lines) + _meetings(lines))


def led_pairs(lines, steps):
    """Tell all pairs of notes such that steps lead from the first to the second, sorted."""
    follows = {call: [] for call in calls_in(lines)}
    for first, second in steps:
        follows[first].append(second)
    return [(call, other) for call in calls_in(lines) for other in _led_from(follows, call)]


def line_steps(lines):
    """Tell the steps from each note to the next one in its line."""
    return [((hand, number), (hand, number + 1)) for hand, number in calls_in(lines) if number + 1 < len(lines[hand])]


def _led_from(follows, call):
    """Tell, sorted, all notes that are led to from this one."""
    found = {}
    waiting = list(follows[call])
    while len(waiting) > 0:
        other = waiting.pop()
        if other not in found:
            found[other] = True
            waiting.extend(follows[other])
    return sorted(found)


def _meetings(lines):
    """Tell the steps from writers, or the fences ahead of them, to their readers, or the fences behind these."""
    steps = []
    for reader in calls_in(lines):
        for writer in _writers_of(lines, reader):
            steps.extend([(begin, end) for begin in _begins(lines, writer) for end in _ends(lines, reader)])
    return steps


def _writers_of(lines, reader):
    """Tell the source of the note, where that is a change its source, too, and so on: none of a note without one."""
    found = []
    source = source_of(note_at(lines, reader))
    # In a drawing with a ring changes may be each other's sources.
    while source is not None and source not in found:
        found.append(source)
        source = source_of(note_at(lines, source))
    return found


def _begins(lines, writer):
    """Tell where meetings of what this note writes begin: at itself, and at fences ahead of it."""
    hand, number = writer
    fences = [at for at in range(number) if lines[hand][at][0] == "fence"]
    return [(hand, at) for at in [*fences, number] if mode_of(lines[hand][at]) in GIVING]


def _ends(lines, reader):
    """Tell where meetings of what this note reads end: at itself, and at fences behind it."""
    hand, number = reader
    line = lines[hand]
    fences = [at for at in range(number + 1, len(line)) if line[at][0] == "fence"]
    return [(hand, at) for at in [number, *fences] if mode_of(line[at]) in TAKING]
