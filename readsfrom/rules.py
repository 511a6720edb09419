"""The three rules that no graph of a program breaks."""

from readsfrom.errors import NoGraph
from readsfrom.notes import box_of, calls_in, does_read, does_write, note_at, source_of
from readsfrom.order import before, led_pairs, line_steps
from readsfrom.programs import look_at
from readsfrom.replaying import is_drawing


def breach(program, graph):
    """Tell the first rule that a drawing breaks: "ring", "parted" or "stale"; None where it breaks none."""
    look_at(program)
    lines = graph.lines()
    if _has_ring(lines):
        return "ring"
    places = _places(graph.rows())
    if not all([_is_behind_source(lines, places, call) for call in calls_in(lines)]):
        return "parted"
    if not all([_is_fresh(lines, places, first, second) for first, second in before(program, graph)]):
        return "stale"
    return None


def is_graph(program, thing):
    """Tell whether the thing is a graph of the program: a drawing that breaks no rule."""
    return is_drawing(program, thing) and breach(program, thing) is None


def look_at_graph(program, thing):
    """Tell None of a graph of the program; refuse all else, by the first rule that a drawing breaks."""
    if not is_drawing(program, thing):
        raise NoGraph(None)
    rule = breach(program, thing)
    if rule is not None:
        raise NoGraph(rule)


def _has_ring(lines):
    """Tell whether steps along lines, and from sources to their readers, lead round."""
    readings = [(source_of(note_at(lines, call)), call) for call in calls_in(lines)]
    steps = line_steps(lines) + [step for step in readings if step[0] is not None]
    return any([first == second for first, second in led_pairs(lines, steps)])


def _places(rows):
    """Tell the place of each note that writes, in its row; that of what a box has at first, too."""
    places = {None: 0}
    for row in rows:
        for number, call in enumerate(row):
            places[call] = number + 1
    return places


def _is_behind_source(lines, places, call):
    note = note_at(lines, call)
    return note[0] != "change" or places[call] == places[source_of(note)] + 1


def _is_fresh(lines, places, first, second):
    """Tell whether the second note, one behind the first, neither reads nor writes at an outdated place."""
    one, other = note_at(lines, first), note_at(lines, second)
    if box_of(one) is None or box_of(one) != box_of(other):
        return True
    seen = max(_places_of(one, places, first))
    if does_read(other) and places[source_of(other)] < seen:
        return False
    return not does_write(other) or places[second] > seen


def _places_of(note, places, call):
    """Tell the places of a note that is no fence: of its reading, of its writing."""
    reading = [places[source_of(note)]] if does_read(note) else []
    return reading + ([places[call]] if does_write(note) else [])
