"""Walks: machines that go through the ended graphs of a program, by their plain runs and in the order of these.

A run is plain where always the least hand was next whose next note had its source among those of the run. So what a
hand does behind a step of a greater one reads what was written by that step or later: else it had been next itself.
"""

from readsfrom.comings import may_come, of_box, wished
from readsfrom.errors import TooMany
from readsfrom.machine import Machine
from readsfrom.ways import box_in, is_reading, next_deed


class Walk(Machine):
    """A machine that keeps to plain runs, and holds one of them at a time."""

    def __init__(self, program):
        super().__init__(program)
        # Of each note that writes, by how many steps it was done ahead of it.
        self._times = {None: -1}
        # Ahead of each step and behind the last: of each hand the time of the last step of a greater one behind its
        # own last step, -1 where there is none.
        self._passings = [tuple([-1 for _ in self._hands])]
        self._comings = [may_come(self._boxes, deeds) for deeds in self._hands]
        self._is_begun = False
        self._many = 0

    def go_on(self):
        """Go on to the run of the next ended graph; tell whether there is one."""
        if self._is_begun and not self._turned_off():
            return False
        self._is_begun = True
        self._go_in()
        while not self.is_over():
            if not self._turned_off():
                return False
            self._go_in()
        self._many += 1
        return True

    def go_within(self, most):
        """Go on likewise, where there are not more ended graphs than so many."""
        is_there = self.go_on()
        if self._many > most:
            raise TooMany(most)
        return is_there

    def many(self):
        """Tell to how many ended graphs it went."""
        return self._many

    def go_to(self, run):
        """Go to this plain run, to go on from there."""
        self.play(run)
        self._is_begun = True

    def plain_steps(self):
        """Tell the steps behind which the run is plain, sorted."""
        return [(hand, place) for hand, _ in enumerate(self._hands) for place in self._plain_places(hand)]

    def has_failed(self):
        """Tell whether some hand failed."""
        return any([self.state(hand)[0] == "failed" for hand, _ in enumerate(self._hands)])

    def back(self):
        super().back()
        self._passings.pop()

    def _do(self, hand, where):
        time = len(self._run)
        self._times[(hand, len(self._lines[hand]))] = time
        self._passings.append((time,) * hand + (-1,) + self._passings[-1][hand + 1:])
        super()._do(hand, where)

    def _go_in(self):
        """Do always the first step that may lead to an ended graph, as long as there is one."""
        step = self._first_step(0) if self._has_hope() else None
        while step is not None:
            self._do(step[0], step[1])
            step = self._first_step(0) if self._has_hope() else None

    def _turned_off(self):
        """Take steps back until another one can stand in the last one's stead, and do it; tell whether there is one."""
        while len(self._run) > 0:
            last = self._run[-1]
            self.back()
            step = self._step_behind(last)
            if step is not None:
                self._do(step[0], step[1])
                return True
        return False

    def _plain_places(self, hand):
        """Tell the places at which a step of the hand leaves the run plain."""
        time = self._passings[-1][hand]
        deed = next_deed(self._ways[hand])
        if time == -1 or deed is None:
            return self._places(hand)
        if not is_reading(deed):
            return []
        row = self._row(box_in(deed))
        return [place for place in self._places(hand) if self._times[row[place]] >= time]

    def _first_step(self, least):
        """Tell the first step, of this hand or a greater one, that may lead to an ended graph; None where none does."""
        for hand in range(least, len(self._hands)):
            places = self._plain_places(hand)
            if len(places) > 0:
                return (hand, places[0])
            if not self._can_be_passed(hand):
                return None
        return None

    def _step_behind(self, step):
        """Tell the first step behind this one that may lead to an ended graph; None where none does."""
        hand, place = step
        places = self._plain_places(hand)
        behind = places[places.index(place) + 1:]
        if len(behind) > 0:
            return (hand, behind[0])
        return self._first_step(hand + 1) if self._can_be_passed(hand) else None

    def _can_be_passed(self, hand):
        """Tell whether a greater hand can go ahead: not of what reads nothing, which can be done at any time."""
        deed = next_deed(self._ways[hand])
        return deed is None or is_reading(deed)

    def _has_hope(self):
        """Tell whether each hand that was passed may still find what is written later."""
        if max(self._passings[-1]) == -1:
            return True
        going = [hand for hand, _ in enumerate(self._hands) if next_deed(self._ways[hand]) is not None]
        waiting = [hand for hand in going if not self._can_go_plainly(hand)]
        coming = self._coming([hand for hand in going if hand not in waiting])
        freed = self._freed(waiting, coming)
        while len(freed) > 0:
            waiting = [hand for hand in waiting if hand not in freed]
            coming = coming | self._coming(freed)
            freed = self._freed(waiting, coming)
        return not any([self._is_lost(hand, coming) for hand in waiting])

    def _can_go_plainly(self, hand):
        if self._passings[-1][hand] == -1:
            return self._can_go(hand)
        return len(self._plain_places(hand)) > 0

    def _coming(self, hands):
        """Tell what these hands may write from here on."""
        coming = 0
        for hand in hands:
            at, _, _ = self._ways[hand]
            coming = coming | self._comings[hand][at]
        return coming

    def _freed(self, waiting, coming):
        return [hand for hand in waiting if wished(self._boxes, next_deed(self._ways[hand])) & coming != 0]

    def _is_lost(self, hand, coming):
        """Tell whether the hand, for which nothing comes, can't be left stuck, as it finds what was there ahead."""
        if len(self._places(hand)) == 0:
            return False
        deed = next_deed(self._ways[hand])
        # What comes to the box of a grab may stand right behind all that it could read, and so bar it.
        return deed[0] != "grab" or of_box(self._boxes, box_in(deed)) & coming == 0
