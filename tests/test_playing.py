"""Promise 5.3, and what 0.2 says of it."""

import unittest

from readsfrom.errors import NoRun
from readsfrom.machine import Machine
from readsfrom.programtexts import read
from tests.things import STRANGE

TEXT = """boxes x y
hand
write x 1 plain
fence both
write y 1 giving
hand
read r y taking
read s x plain
claim s is 1
hand
wait r x 2 loose"""

RUN = [(0, 1), (0, None), (1, 0), (0, 1), (1, 0)]

# What can't be done at first, nor behind the first two steps of the run, of any kind.
NO_STEPS = [[0, 1], (0,), (0, 1, 1), (), "01", 0, {0: 1}, ((0, 1),), ([0], 1), (0, [1]), ("0", 1), (0, "1"),
            (False, 1), (0, True), (0, 1.0), (0.0, 1), (None, 1), (3, 1), (-1, 1), (-3, 1), (10 ** 59, 1), (0, 0),
            (0, 2), (0, -1), (0, None), (0, 10 ** 59), (1, None), (1, 1), (1, False), (2, 0), (2, None), (2, 2),
            *STRANGE, *[(thing, 1) for thing in STRANGE], *[(0, thing) for thing in STRANGE]]


def all_of(machine):
    return (machine.run(), machine.steps(), machine.graph(), machine.is_over(), len(machine),
            [machine.state(hand) for hand in range(3)], [machine.view(hand) for hand in range(3)])


class PlayTest(unittest.TestCase):
    def refuse(self, machine, steps, number):
        told, log = all_of(machine), machine.log()
        with self.assertRaises(NoRun) as caught:
            machine.play(steps)
        self.assertEqual(caught.exception.number, number)
        self.assertNotIsInstance(caught.exception.number, bool)
        self.assertEqual(all_of(machine), told)
        self.assertEqual(machine.log(), log + ["begin", "end"])

    def test_a_run_as_a_whole(self):
        machine, other = Machine(read(TEXT)), Machine(read(TEXT))
        self.assertIsNone(machine.play(RUN))
        self.assertEqual(machine.run(), RUN)
        for hand, where in RUN:
            other.step(hand, where=where)
        self.assertEqual(all_of(machine), all_of(other))
        self.assertEqual((machine.log(), other.log()), (["begin", "end"], []))
        self.assertIs(machine.is_over(), True)
        self.assertEqual(machine.state(1)[0], "failed")

    def test_in_parts(self):
        for at in range(len(RUN) + 1):
            machine = Machine(read(TEXT))
            machine.play(RUN[:at])
            machine.play(steps=RUN[at:])
            self.assertEqual(machine.run(), RUN)
            self.assertEqual(machine.log(), ["begin", "end", "begin", "end"])

    def test_no_steps(self):
        machine = Machine(read(TEXT))
        self.assertIsNone(machine.play([]))
        self.assertEqual((machine.run(), machine.log()), ([], ["begin", "end"]))

    def test_what_is_no_list(self):
        machine = Machine(read(TEXT))
        machine.play(RUN[:1])
        for thing in [tuple(RUN[1:]), (), "", "0.1", 0, 1, dict(RUN), RUN[1], Machine(read(TEXT)), *STRANGE]:
            self.refuse(machine, thing, None)

    def test_what_is_no_step(self):
        machine = Machine(read(TEXT))
        for thing in NO_STEPS:
            self.refuse(machine, [thing], 0)
            self.refuse(machine, [thing, (0, 1)], 0)
        machine.play(RUN[:1])
        for thing in NO_STEPS:
            self.refuse(machine, [(0, None), thing, thing], 1)
        for thing in [None, (1, 2), (1, -1), (1, None), (2, 0), (0, 0), (0, 2), [1, 0]]:
            self.refuse(machine, [(0, None), (1, 0), thing, (0, 1)], 2)

    def test_a_step_left_out_or_twice_or_too_many(self):
        machine = Machine(read(TEXT))
        for at, number in [(0, 0), (1, 2)]:
            self.refuse(machine, RUN[:at] + RUN[at + 1:], number)
        for at, number in [(0, 1), (1, 2)]:
            self.refuse(machine, RUN[:at + 1] + RUN[at:], number)
        self.refuse(machine, [*RUN, RUN[-1]], 5)
        self.refuse(machine, [*RUN, (2, 1)], 5)
        self.refuse(machine, [*RUN, None, None], 5)
        self.refuse(machine, RUN * 2, 5)
        self.refuse(machine, [(1, 1), *RUN], 0)
        machine.play(RUN)
        self.refuse(machine, RUN, 0)
        self.refuse(machine, RUN[-1:], 0)
        self.refuse(machine, None, None)

    def test_as_ahead_of_all_of_them(self):
        machine = Machine(read(TEXT))
        for many in range(len(RUN)):
            self.refuse(machine, RUN[many:] + [None], len(RUN) - many)
            machine.step(RUN[many][0], where=RUN[many][1])
        for many in range(len(RUN) - 1, -1, -1):
            machine.back()
            self.assertEqual(machine.run(), RUN[:many])
            self.refuse(machine, RUN[many:] + [(0, 1)], len(RUN) - many)

    def test_the_log(self):
        machine = Machine(read(TEXT))
        self.assertEqual(machine.log(), [])
        machine.step(0, where=1)
        machine.back()
        self.assertEqual(machine.log(), [])
        machine.play([])
        self.assertRaises(NoRun, machine.play, None)
        self.assertRaises(NoRun, machine.play, [(0, 1), None])
        machine.play(RUN)
        self.assertEqual(machine.log(), ["begin", "end"] * 4)
        for _ in RUN:
            machine.back()
        self.assertEqual(machine.log(), ["begin", "end"] * 4)
        self.assertEqual(machine.twin().log(), [])
        self.assertEqual(machine.log(), ["begin", "end"] * 4)

    def test_a_twin_with_a_log_of_its_own(self):
        machine = Machine(read(TEXT))
        machine.play(RUN[:3])
        twin = machine.twin()
        self.assertEqual(twin.run(), RUN[:3])
        self.assertEqual(twin.log(), [])
        twin.play(RUN[3:])
        twin.play([])
        self.assertEqual((twin.log(), machine.log()), (["begin", "end"] * 2, ["begin", "end"]))
        self.assertEqual((twin.run(), machine.run()), (RUN, RUN[:3]))

    def test_steps_changed_behind_it(self):
        steps = list(RUN)
        machine = Machine(read(TEXT))
        machine.play(steps)
        self.assertEqual(steps, RUN)
        steps.clear()
        self.assertEqual(machine.run(), RUN)


if __name__ == "__main__":
    unittest.main()
