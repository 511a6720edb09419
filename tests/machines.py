"""What several tests of the machine share."""

import unittest

from readsfrom.errors import NoStep
from readsfrom.machine import Machine
from readsfrom.programtexts import read

PASSING = """boxes x y
hand
write x 1 plain
write y 1 giving
hand
read r y taking
read s x plain"""


class MachineCase(unittest.TestCase):
    def refuse(self, machine, hand, **where):
        told = self.all_of(machine)
        with self.assertRaises(NoStep) as caught:
            machine.step(hand, **where)
        self.assertIs(caught.exception.hand, hand)
        self.assertEqual(self.all_of(machine), told)

    def all_of(self, machine):
        hands = len(machine.graph().lines())
        return (machine.run(), machine.steps(), machine.graph(), machine.log(), machine.is_over(), len(machine),
                [machine.state(hand) for hand in range(hands)], [machine.view(hand) for hand in range(hands)])

    def done(self, text, *steps):
        machine = Machine(read(text))
        for hand, where in steps:
            self.assertIsNone(machine.step(hand, where=where))
        return machine
