"""The machine: a program's hands going on by steps, each with its own views of the boxes.

A message is called as the note that wrote it is, by (hand, number); what a box has at first by None. The row of a box
lists its messages in order. Views have messages in the stead of places: so their places move on by themselves where
a new message is put ahead of them.
"""

from readsfrom.errors import Bare, NoHand, NoRun, NoStep
from readsfrom.forms import is_from_to, is_whole
from readsfrom.graphs import Graph
from readsfrom.notes import (
    GIVING, TAKING, box_of, does_read, does_write, mode_of, note_at, number_read, number_written, source_of,
)
from readsfrom.programs import look_at
from readsfrom.views import joined, moved
from readsfrom.ways import (
    begun, box_in, can_read, gone_on, is_changing, is_reading, is_waiting, next_deed, note_of, state_on,
)


class Machine:
    """A machine of a program, at first ahead of all steps."""

    def __init__(self, program):
        look_at(program)
        boxes, hands = program
        view = tuple([None for _ in boxes])
        self._boxes = list(boxes)
        self._hands = [list(deeds) for deeds in hands]
        self._rows = [[None] for _ in boxes]
        # Of each message its number and its view.
        self._messages = {None: (0, view)}
        self._lines = [[] for _ in hands]
        self._ways = [begun(deeds) for deeds in hands]
        # Of each hand its told view, its kept one, its given one.
        self._views = [(view, view, view) for _ in hands]
        self._run = []
        # Of each step of the run the way and the views that its hand had ahead of it.
        self._past = []
        self._log = []

    def steps(self):
        """Tell the steps that can be done, sorted."""
        return [(hand, place) for hand, _ in enumerate(self._hands) for place in self._places(hand)]

    def step(self, hand, *, where=None):
        """Do the step of this hand at this place; refuse what can't be done."""
        if not self._can(hand, where):
            raise NoStep(hand)
        self._do(hand, where)

    def play(self, steps):
        """Do all these steps; where one can't be done, none."""
        self._log.append("begin")
        try:
            self._play(steps)
        finally:
            self._log.append("end")

    def back(self):
        """Take the last step back."""
        if len(self._run) == 0:
            raise Bare()
        hand, _ = self._run.pop()
        self._ways[hand], self._views[hand] = self._past.pop()
        note = self._lines[hand].pop()
        if does_write(note):
            call = (hand, len(self._lines[hand]))
            self._row(box_of(note)).remove(call)
            del self._messages[call]

    def run(self):
        """Tell the steps done so far."""
        return list(self._run)

    def log(self):
        """Tell `begin` and `end` of each playing."""
        return list(self._log)

    def graph(self):
        """Tell the graph of the run so far."""
        return Graph(self._lines, [row[1:] for row in self._rows])

    def state(self, hand):
        """Tell the hand's word, the number of the deed at which it stands, and its registers."""
        self._look_at_hand(hand)
        return state_on(self._hands[hand], self._ways[hand])

    def view(self, hand):
        """Tell the places of the hand's told view, by boxes."""
        self._look_at_hand(hand)
        told, _, _ = self._views[hand]
        return {box: row.index(message) for box, row, message in zip(self._boxes, self._rows, told)}

    def is_over(self):
        """Tell whether no step can be done."""
        for hand, _ in enumerate(self._hands):
            if self._can_go(hand):
                return False
        return True

    def twin(self):
        """Tell a machine with the same run and an empty log, that goes on by itself."""
        twin = Machine((self._boxes, self._hands))
        for hand, where in self._run:
            twin.step(hand, where=where)
        return twin

    def __len__(self):
        return len(self._run)

    def _look_at_hand(self, hand):
        if not is_from_to(hand, 0, len(self._hands) - 1):
            raise NoHand(hand)

    def _row(self, box):
        return self._rows[self._boxes.index(box)]

    def _play(self, steps):
        if not isinstance(steps, list):
            raise NoRun(None)
        length = len(self._run)
        for number, step in enumerate(steps):
            if not self._is_step(step):
                while len(self._run) > length:
                    self.back()
                raise NoRun(number)
            hand, where = step
            self._do(hand, where)

    def _is_step(self, thing):
        """Tell whether the thing is a step that can be done."""
        return isinstance(thing, tuple) and len(thing) == 2 and self._can(thing[0], thing[1])

    def _can(self, hand, where):
        # True is equal to 1, but it is neither a hand nor a place.
        if not is_from_to(hand, 0, len(self._hands) - 1) or not (where is None or is_whole(where)):
            return False
        return where in self._places(hand)

    def _can_go(self, hand):
        """Tell whether some step of the hand can be done."""
        deed = next_deed(self._ways[hand])
        # What does not wait can be done at the last place of its row at least.
        return deed is not None and (not is_waiting(deed) or len(self._places(hand)) > 0)

    def _places(self, hand):
        """Tell, rising, the places at which the hand's next deed can be done; None of a fence."""
        deed = next_deed(self._ways[hand])
        if deed is None:
            return []
        if deed[0] == "fence":
            return [None]
        row = self._row(box_in(deed))
        told, _, _ = self._views[hand]
        least = row.index(told[self._boxes.index(box_in(deed))])
        if is_reading(deed):
            return [place for place in range(least, len(row)) if self._can_read(deed, row, place)]
        return [place for place in range(least + 1, len(row) + 1) if not self._is_change(row, place)]

    def _can_read(self, deed, row, place):
        number, _ = self._messages[row[place]]
        # Right behind what a change read it stands itself, so there is no place for another one.
        is_barred = is_changing(deed, number) and self._is_change(row, place + 1)
        return can_read(deed, number) and not is_barred

    def _is_change(self, row, place):
        """Tell whether at this place of the row, behind the first, something stands that a change wrote."""
        return place < len(row) and note_at(self._lines, row[place])[0] == "change"

    def _do(self, hand, where):
        """Do a step that can be done."""
        note = self._next_note(hand, where)
        self._run.append((hand, where))
        self._past.append((self._ways[hand], self._views[hand]))
        if does_read(note):
            self._take(hand, note)
        if does_write(note):
            self._put(hand, note, where + 1 if does_read(note) else where)
        if note[0] == "fence":
            self._pass_fence(hand, note)
        self._ways[hand] = gone_on(self._hands[hand], self._ways[hand], number_read(note))
        self._lines[hand].append(note)

    def _next_note(self, hand, where):
        """Tell the note that the hand's next deed makes at this place."""
        deed = next_deed(self._ways[hand])
        _, registers, _ = self._ways[hand]
        if not is_reading(deed):
            return note_of(deed, registers, None, None)
        source = self._row(box_in(deed))[where]
        number, _ = self._messages[source]
        return note_of(deed, registers, number, source)

    def _take(self, hand, note):
        """Let what the note reads come into the hand's views."""
        told, kept, given = self._views[hand]
        _, view = self._messages[source_of(note)]
        told = moved(told, self._boxes.index(box_of(note)), source_of(note))
        if mode_of(note) in TAKING:
            told = joined(self._rows, told, view)
        else:
            kept = joined(self._rows, kept, view)
        self._views[hand] = (told, kept, given)

    def _put(self, hand, note, place):
        """Put the message of the note, the next one of the hand, at the place."""
        told, kept, given = self._views[hand]
        box = self._boxes.index(box_of(note))
        call = (hand, len(self._lines[hand]))
        self._rows[box].insert(place, call)
        told = moved(told, box, call)
        view = told if mode_of(note) in GIVING else moved(given, box, call)
        # What only writes has no source: all that is read at first is at place 0, and adds nothing.
        _, read = self._messages[source_of(note)]
        self._messages[call] = (number_written(note), joined(self._rows, view, read))
        self._views[hand] = (told, kept, given)

    def _pass_fence(self, hand, note):
        told, kept, given = self._views[hand]
        if mode_of(note) in TAKING:
            told = joined(self._rows, told, kept)
        if mode_of(note) in GIVING:
            given = told
        self._views[hand] = (told, kept, given)
