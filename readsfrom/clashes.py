"""Clashes: notes of unlike hands and of one box, one of them writing at least, of which none is before the other."""

from readsfrom.errors import TooMany
from readsfrom.goer import MOST_GRAPHS
from readsfrom.knowing import does_clash, nothing_known, passed, taken
from readsfrom.notes import box_of, calls_in, does_write, note_at
from readsfrom.order import before
from readsfrom.programs import look_at
from readsfrom.runs import graph_of
from readsfrom.turning import first_stand, key_of, turn_of


def clashing(program, graph):
    """Tell all pairs of notes of a drawing that clash, the lesser first, sorted."""
    led = {pair: True for pair in before(program, graph)}
    lines = graph.lines()
    calls = calls_in(lines)
    pairs = [(one, other) for number, one in enumerate(calls) for other in calls[number + 1:]]
    pairs = [(one, other) for one, other in pairs if _can_clash(lines, one, other)]
    # Of notes of one hand always one is before the other.
    return [(one, other) for one, other in pairs if (one, other) not in led and (other, one) not in led]


def clash_of(program):
    """Tell a run that takes turns, and two notes of its graph that clash; None where no such run has two."""
    look_at(program)
    boxes, hands = program
    run = ClashSearch(program).found(first_stand(program), nothing_known(boxes, hands))
    if run is None:
        return None
    one, other = clashing(program, graph_of(program, run))[0]
    return (run, one, other)


class ClashSearch:
    """Looks for a clash in the graphs of all runs that take turns; those that go on alike are gone through once."""

    def __init__(self, program):
        self._program = program
        # Of each turn so far its hand and its note.
        self._turns = []
        self._seen = {}

    def found(self, stand, known):
        """Tell a run, these turns ahead, in the graph of which the last note clashes; None where there is none."""
        key = (key_of(self._program, stand), known)
        if key in self._seen:
            return None
        self._seen[key] = True
        # Behind unlike graphs alone unlike things stand and are known.
        if len(self._seen) > MOST_GRAPHS:
            raise TooMany(MOST_GRAPHS)
        _, hands = self._program
        for hand, _ in enumerate(hands):
            run = self._found_by(stand, known, hand)
            if run is not None:
                return run
        return None

    def _found_by(self, stand, known, hand):
        """Tell such a run that goes on by a turn of the hand."""
        turn = turn_of(self._program, stand, hand)
        if turn is None:
            return None
        note, stand = turn
        boxes, _ = self._program
        known = taken(boxes, known, hand, note)
        self._turns.append((hand, note))
        if does_clash(boxes, known, hand, note):
            return _run_of_turns(boxes, self._turns)
        run = self.found(stand, passed(boxes, known, hand, note))
        self._turns.pop()
        return run


def _run_of_turns(boxes, turns):
    """Tell the run of these hands' turns, by their notes."""
    lengths = {box: 0 for box in boxes}
    run = []
    for hand, note in turns:
        box = box_of(note)
        if does_write(note):
            lengths[box] += 1
        # A note that reads has the place of what it reads, which is right ahead of what it writes.
        run.append((hand, None if box is None else lengths[box] - (1 if note[0] == "change" else 0)))
    return run


def _can_clash(lines, one, other):
    """Tell whether the notes are of one box, and one of them writes."""
    first, second = note_at(lines, one), note_at(lines, other)
    return box_of(first) == box_of(second) and (does_write(first) or does_write(second))
