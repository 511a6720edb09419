"""Promises 5.1 and 5.2, and what 0.2 and 1.2 say of them."""

import random
import unittest

from readsfrom.errors import Bare, NoHand
from readsfrom.graphs import Graph
from readsfrom.machine import Machine
from readsfrom.programtexts import read
from readsfrom.rules import is_graph
from tests.machines import PASSING, MachineCase
from tests.slow import Slow
from tests.things import STRANGE, long_program, refuses_programs

# Programs of all sorts of deeds, each of them gone through by several weavings.
WOVEN = [
    PASSING,
    "boxes x\nhand\nchange r x add 1 both\nchange r x add r loose\nhand\nchange r x add 2 taking\nwrite x 7 giving\n"
    "hand\nread r x plain\nwrite x r loose\nread r x taking",
    "boxes x y\nhand\nwrite x 1 plain\nfence giving\nwrite y 1 loose\nhand\nread r y loose\nfence taking\n"
    "read s x plain",
    "boxes x y\nhand\nwrite x 1 loose\nfence both\nread r y plain\nchange r y add 1 giving\nhand\nwrite y 1 loose\n"
    "fence both\nread r x plain\nswap s x 1 2 both",
    "boxes x y\nhand\nswap r x 0 1 giving\nskip r isnt 0 2\nwrite y 1 plain\nwrite x 0 giving\nhand\n"
    "swap r x 0 1 taking\nskip r isnt 0 2\nread s y plain\nwrite x 0 giving",
    "boxes x y\nhand\nwrite y 3 plain\ngrab r x 0 1 both\nhand\nwait r x 1 taking\nread s y loose\nclaim s is 3\n"
    "write y s plain\nhand\ngrab q x 1 2 loose\nwait r y 3 plain",
    "boxes a b c d\nhand\nwrite a 1 plain\nwrite b 2 giving\nhand\nread r b loose\nwrite c r plain\nfence both\n"
    "write d 4 loose\nhand\nread r d taking\nread r a plain\nhand\nchange r a put r both\nchange s d add 5 both",
]


class MachineTest(MachineCase):
    def test_at_first(self):
        machine = Machine(read(PASSING))
        self.assertEqual(machine.steps(), [(0, 1), (1, 0)])
        self.assertEqual(machine.run(), [])
        self.assertEqual(machine.log(), [])
        self.assertEqual(machine.graph(), Graph([[], []], [[], []]))
        self.assertEqual(machine.state(0), ("going", 0, []))
        self.assertEqual(machine.state(1), ("going", 0, [("r", 0), ("s", 0)]))
        self.assertEqual([machine.view(0), machine.view(1)], [{"x": 0, "y": 0}] * 2)
        self.assertIs(machine.is_over(), False)
        self.assertEqual(len(machine), 0)

    def test_without_deeds(self):
        machine = Machine((["x", "y"], [[], []]))
        self.assertEqual(machine.steps(), [])
        self.assertIs(machine.is_over(), True)
        self.assertEqual(machine.graph(), Graph([[], []], [[], []]))
        self.assertEqual(machine.state(1), ("through", 0, []))
        self.assertEqual(machine.view(1), {"x": 0, "y": 0})
        self.refuse(machine, 0)
        self.refuse(machine, 0, where=0)
        self.refuse(machine, 0, where=1)

    def test_a_run(self):
        machine = self.done(PASSING, (0, 1), (0, 1), (1, 1))
        self.assertEqual(machine.steps(), [(1, 1)])
        self.assertEqual(machine.view(1), {"x": 1, "y": 1})
        machine.step(1, where=1)
        self.assertEqual(machine.run(), [(0, 1), (0, 1), (1, 1), (1, 1)])
        self.assertEqual(len(machine), 4)
        self.assertIs(machine.is_over(), True)
        self.assertEqual(machine.graph(), Graph(
            [[("write", "x", "plain", 1), ("write", "y", "giving", 1)],
             [("read", "y", "taking", 1, (0, 1)), ("read", "x", "plain", 1, (0, 0))]], [[(0, 0)], [(0, 1)]]))
        self.assertEqual(machine.state(0), ("through", 2, []))
        self.assertEqual(machine.state(1), ("through", 2, [("r", 1), ("s", 1)]))

    def test_what_is_no_step(self):
        text = "boxes x\nhand\nwrite x 1 plain\nhand\nread r x plain\nread r x plain\nhand\nfence both\nhand"
        machine = self.done(text, (0, 1), (1, 1))
        self.assertEqual(machine.steps(), [(1, 1), (2, None)])
        for where in [0, 2, -1, 10 ** 59, -10 ** 59, "1", "", [1], (1,), *STRANGE]:
            self.refuse(machine, 1, where=where)
        self.refuse(machine, 1)
        for where in [0, 1, -1, "-", [], *[one for one in STRANGE if one is not None]]:
            self.refuse(machine, 2, where=where)
        for hand in [0, 3, 4, -1, -3, 10 ** 59, "1", "", [1], (1, 1), *STRANGE]:
            for where in [None, 0, 1, 2]:
                self.refuse(machine, hand, where=where)
        # True and False are no hands.
        machine = self.done("boxes x\nhand\nfence both\nhand\nfence both")
        for hand in [False, True, -1, -2, 2]:
            self.refuse(machine, hand)
        machine = self.done("boxes x\nhand\nread r x plain")
        self.refuse(machine, 0, where=False)
        self.refuse(machine, 0, where=0.0)
        self.assertIsNone(machine.step(hand=0, where=0))

    def test_where_goes_by_its_name_alone(self):
        machine = Machine(read(PASSING))
        with self.assertRaises(TypeError):
            machine.step(0, 1)
        self.assertEqual(machine.run(), [])

    def test_states_and_views_of_no_hand(self):
        machine = self.done(PASSING, (0, 1))
        for hand in [2, -1, -2, 10 ** 59, "0", "", [], [0], (0,), *STRANGE]:
            for ask in [machine.state, machine.view]:
                with self.assertRaises(NoHand) as caught:
                    ask(hand)
                self.assertIs(caught.exception.hand, hand)
        self.assertEqual(machine.state(hand=1), ("going", 0, [("r", 0), ("s", 0)]))
        self.assertEqual(machine.view(hand=0), {"x": 1, "y": 0})

    def test_back_at_the_begin(self):
        machine = Machine(read(PASSING))
        for _ in range(2):
            told = self.all_of(machine)
            self.assertRaises(Bare, machine.back)
            self.assertEqual(self.all_of(machine), told)
            machine.step(0, where=1)
            self.assertIsNone(machine.back())

    def test_back_and_all_ways_of_weaving(self):
        for number, text in enumerate(WOVEN):
            program = read(text)
            for weaving in range(25):
                chance = random.Random(1000 * number + weaving)
                machine, slow, told = Machine(program), Slow(program), []
                while True:
                    told.append(self.all_of(machine))
                    self.assertEqual(machine.steps(), slow.steps())
                    self.assertIs(machine.is_over(), machine.steps() == [])
                    self.assertEqual(machine.graph(), Graph(slow.lines, slow.graph_rows()))
                    self.assertEqual([machine.view(hand) for hand in range(len(slow.hands))], slow.told)
                    self.assertEqual([machine.state(hand)[1] for hand in range(len(slow.hands))], slow.at)
                    self.assertIs(is_graph(program, machine.graph()), True)
                    if machine.is_over():
                        break
                    hand, where = chance.choice(machine.steps())
                    machine.step(hand, where=where)
                    slow.step(hand, where)
                run = machine.run()
                for many in range(len(run) - 1, -1, -1):
                    self.assertIsNone(machine.back())
                    self.assertEqual(self.all_of(machine), told[many])
                self.assertRaises(Bare, machine.back)
                for hand, where in run:
                    machine.step(hand, where=where)
                self.assertEqual(self.all_of(machine), told[-1])

    def test_back_and_on_another_way(self):
        text = "boxes x\nhand\nchange r x add 1 both\nhand\nchange r x add 2 both\nhand\nwrite x 5 giving"
        machine = self.done(text, (0, 0), (1, 1))
        machine.back()
        self.assertEqual(machine.steps(), [(1, 1), (2, 2)])
        machine.step(2, where=2)
        machine.step(1, where=2)
        self.assertEqual(machine.graph().rows(), [[(0, 0), (2, 0), (1, 0)]])
        self.assertEqual(machine.graph().lines()[1], [("change", "x", "both", 5, 7, (2, 0))])
        machine.back()
        machine.back()
        machine.back()
        self.assertEqual(machine.steps(), [(0, 0), (1, 0), (2, 1)])

    def test_twins(self):
        machine = self.done(PASSING, (0, 1), (1, 0))
        machine.play([(0, 1)])
        told = self.all_of(machine)
        twin = machine.twin()
        self.assertIsInstance(twin, Machine)
        self.assertEqual(twin.log(), [])
        self.assertEqual(self.all_of(twin)[:3] + self.all_of(twin)[4:], told[:3] + told[4:])
        twin.step(1, where=1)
        twin.play([])
        self.assertEqual(self.all_of(machine), told)
        of_twin = self.all_of(twin)
        self.assertEqual(of_twin[0], [(0, 1), (1, 0), (0, 1), (1, 1)])
        machine.back()
        machine.back()
        machine.back()
        self.assertEqual(self.all_of(twin), of_twin)
        for _ in range(4):
            twin.back()
        self.assertRaises(Bare, twin.back)
        self.assertEqual(twin.log(), ["begin", "end"])
        self.assertEqual(len(Machine(read(PASSING)).twin()), 0)

    def test_lists_told_and_changed(self):
        machine = self.done(PASSING, (0, 1), (1, 0))
        machine.play([])
        told = self.all_of(machine)
        for ask in [machine.steps, machine.run, machine.log]:
            kept = ask()
            ask().append((1, 1))
            ask().clear()
            self.assertEqual(ask(), kept)
        view = machine.view(0)
        view["x"] = 7
        view.clear()
        machine.state(1)[2].clear()
        machine.graph().lines()[0].clear()
        self.assertEqual(self.all_of(machine), told)
        kept = self.all_of(machine)
        graph = machine.graph()
        machine.step(0, where=1)
        self.assertEqual(kept, told)
        lines = [[("write", "x", "plain", 1)], [("read", "y", "taking", 0, None)]]
        self.assertEqual(graph, Graph(lines, [[(0, 0)], []]))

    def test_a_program_changed_behind_it(self):
        program = read(PASSING)
        machine = Machine(program=program)
        told = self.all_of(machine)
        program[0][0] = "a"
        program[0].append("z")
        program[1][0][0] = ("fence", "both")
        program[1][1].clear()
        program[1].append([])
        self.assertEqual(self.all_of(machine), told)
        twin = machine.twin()
        for hand, where in [(0, 1), (0, 1), (1, 1), (1, 1)]:
            machine.step(hand, where=where)
            twin.step(hand, where=where)
        self.assertEqual(machine.view(1), {"x": 1, "y": 1})
        self.assertEqual(self.all_of(machine), self.all_of(twin))

    def test_no_program_handed_in_is_changed(self):
        program = long_program()
        machine = Machine(program)
        while not machine.is_over():
            hand, where = machine.steps()[-1]
            machine.step(hand, where=where)
        machine.back()
        self.assertEqual(program, long_program())

    def test_no_programs(self):
        refuses_programs(self, Machine)

    def test_methods_stand_in_the_class_itself(self):
        for name in ["steps", "step", "play", "back", "run", "log", "graph", "state", "view", "is_over", "twin"]:
            self.assertIn(name, vars(Machine))
        self.assertIn("__len__", vars(Machine))


if __name__ == "__main__":
    unittest.main()
