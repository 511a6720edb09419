"""Promise 6.2, and what 0.2 and 1.2 say of it."""

import unittest

from readsfrom.graphs import Graph
from readsfrom.machine import Machine
from readsfrom.outcomes import is_ended, is_full, outcome_of
from readsfrom.programtexts import read
from readsfrom.replaying import is_drawing
from readsfrom.runs import graph_of
from tests.things import refuses_programs

TEXT = """boxes a x y
hand
write x 1 plain
write x 2 plain
hand
read r x plain
claim r isnt 2
change s y add 7 loose
hand
wait r x 1 loose
write y q loose
hand
skip q is 0 1
fence both"""


class OutcomeTest(unittest.TestCase):
    def check(self, run, ended, full, words):
        program = read(TEXT)
        graph = graph_of(program, run)
        self.assertIs(is_ended(program, graph), ended)
        self.assertIs(is_full(program, graph), full)
        told = outcome_of(program, graph)
        self.assertIs(type(told), tuple)
        self.assertEqual([type(one) for one in told], [list] * 3)
        self.assertEqual(told[0], words)
        return told

    def test_all_through(self):
        told = self.check([(0, 1), (2, 1), (2, 1), (0, 2), (1, 0), (1, 1)], True, True, ["through"] * 4)
        self.assertEqual(told[1:], ([[], [("r", 0), ("s", 0)], [("q", 0), ("r", 1)], [("q", 0)]], [0, 2, 7]))

    def test_failed(self):
        told = self.check([(0, 1), (2, 1), (2, 1), (0, 2), (1, 2)], True, True,
                          ["through", "failed", "through", "through"])
        self.assertEqual(told[1:], ([[], [("r", 2), ("s", 0)], [("q", 0), ("r", 1)], [("q", 0)]], [0, 2, 0]))

    def test_stuck(self):
        program = read("boxes x y\nhand\nwait r x 3 plain\nwrite x 4 plain\nhand\ngrab r x 1 0 both\nclaim r is 1")
        graph = Graph([[], []], [[], []])
        self.assertIs(is_ended(program, graph), True)
        self.assertIs(is_full(program, graph), False)
        self.assertEqual(outcome_of(program, graph), (["stuck", "stuck"], [[("r", 0)], [("r", 0)]], [0, 0]))
        program = read("boxes x\nhand\nwait r x 3 plain\nhand\nwrite x 4 plain\nclaim q is 1\nfence both")
        graph = graph_of(program, [(1, 1)])
        self.assertIs(is_ended(program, graph), True)
        self.assertIs(is_full(program, graph), False)
        self.assertEqual(outcome_of(program, graph), (["stuck", "failed"], [[("r", 0)], [("q", 0)]], [4]))

    def test_unended(self):
        run = [(0, 1), (2, 1), (2, 1), (0, 2), (1, 0), (1, 1)]
        for many in range(len(run)):
            graph = graph_of(read(TEXT), run[:many])
            self.assertIs(is_ended(read(TEXT), graph), False)
            self.assertIs(is_full(read(TEXT), graph), False)

    def test_a_wait_that_can_go_on(self):
        program = read("boxes x\nhand\nwait r x 3 plain\nhand\nwrite x 3 plain")
        for run, ended, full in [([], False, False), ([(1, 1)], False, False), ([(1, 1), (0, 1)], True, True)]:
            graph = graph_of(program, run)
            self.assertIs(is_ended(program, graph), ended)
            self.assertIs(is_full(program, graph), full)

    def test_a_wait_that_came_too_late(self):
        program = read("boxes x\nhand\nread r x plain\nwait r x 0 plain\nhand\nwrite x 3 plain")
        graph = graph_of(program, [(1, 1), (0, 1)])
        self.assertIs(is_ended(program, graph), True)
        self.assertIs(is_full(program, graph), False)
        self.assertEqual(outcome_of(program, graph), (["stuck", "through"], [[("r", 3)], []], [3]))
        self.assertIs(is_ended(program, graph_of(program, [(1, 1), (0, 0)])), False)

    def test_a_grab_whose_number_another_one_took(self):
        program = read("boxes x\nhand\ngrab r x 0 1 both\nhand\ngrab r x 0 2 both")
        for run, words, number in [([(0, 0)], ["through", "stuck"], 1), ([(1, 0)], ["stuck", "through"], 2)]:
            graph = graph_of(program, run)
            self.assertIs(is_ended(program, graph), True)
            self.assertIs(is_full(program, graph), False)
            self.assertEqual(outcome_of(program, graph), (words, [[("r", 0)], [("r", 0)]], [number]))

    def test_without_deeds(self):
        program, graph = (["x", "y"], [[], []]), Graph([[], []], [[], []])
        self.assertIs(is_ended(program, graph), True)
        self.assertIs(is_full(program, graph), True)
        self.assertEqual(outcome_of(program, graph), (["through", "through"], [[], []], [0, 0]))

    def test_the_last_number_of_a_row(self):
        program = read("boxes a b c d\nhand\nwrite a 5 plain\nwrite b 0 plain\nchange r c add 3 both\nhand\n"
                       "write a 6 plain")
        for place, number in [(1, 5), (2, 6)]:
            run = [(0, 1), (0, 1), (0, 0), (1, place)]
            self.assertEqual(outcome_of(program, graph_of(program, run))[2], [number, 0, 3, 0])
        run = [(1, 1), (0, 1), (0, 1), (0, 0)]
        self.assertEqual(outcome_of(program, graph_of(program, run))[2], [6, 0, 3, 0])

    def test_drawings_that_break_rules(self):
        # They have no run, so none behind which the machine is over.
        program = read("boxes x\nhand\nwrite x 0 plain\nwrite x 0 plain")
        graph = Graph([[("write", "x", "plain", 0)] * 2], [[(0, 1), (0, 0)]])
        self.assertIs(is_drawing(program, graph), True)
        self.assertIs(is_ended(program, graph), False)
        self.assertIs(is_full(program, graph), True)

    def test_the_same_as_the_machine(self):
        program = read(TEXT)
        machine = Machine(program)

        def walk():
            self.assertIs(is_ended(program, machine.graph()), machine.is_over())
            words, registers, _ = outcome_of(program, machine.graph())
            states = [machine.state(hand) for hand in range(4)]
            self.assertEqual(words, ["stuck" if word == "going" else word for word, _, _ in states])
            self.assertEqual(registers, [told for _, _, told in states])
            self.assertIs(is_full(program, machine.graph()), "stuck" not in words)
            for hand, where in machine.steps()[:2]:
                machine.step(hand, where=where)
                walk()
                machine.back()

        walk()

    def test_no_programs(self):
        for ask in [is_ended, is_full, outcome_of]:
            refuses_programs(self, lambda program: ask(program, Graph([[]], [[]])))
            refuses_programs(self, lambda program: ask(program, None))

    def test_told_anew_and_nothing_changed(self):
        program = read(TEXT)
        graph = graph_of(program, [(0, 1), (2, 1), (2, 1), (0, 2), (1, 2)])
        kept = Graph(graph.lines(), graph.rows())
        told = outcome_of(graph=graph, program=program)
        again = outcome_of(program, graph)
        told[0].clear()
        told[1][1].append(("t", 1))
        told[1].pop()
        told[2][0] = 9
        self.assertEqual(outcome_of(program, graph), again)
        self.assertIs(is_ended(graph=graph, program=program), True)
        self.assertIs(is_full(graph=graph, program=program), True)
        self.assertEqual((program, graph), (read(TEXT), kept))


if __name__ == "__main__":
    unittest.main()
