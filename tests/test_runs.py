"""Promise 6.1, and what 0.2 and 1.2 say of it."""

import unittest
from itertools import permutations

from readsfrom.errors import NoGraph, NoHand, NoProgram, NoRun
from readsfrom.graphs import Graph
from readsfrom.machine import Machine
from readsfrom.programtexts import read
from readsfrom.runs import graph_of, is_run, run_of
from tests.test_playing import NO_STEPS, RUN, TEXT
from tests.things import STRANGE, long_program, refuses_programs

# Two that send, one that reads both.
SENT = """boxes x y
hand
read r y loose
read r x plain
hand
write x 1 plain
fence giving
write y 1 plain
hand
write x 2 plain
change r y add 1 both"""
SENT_GRAPH = Graph(
    [[("read", "y", "loose", 2, (2, 1)), ("read", "x", "plain", 0, None)],
     [("write", "x", "plain", 1), ("fence", "giving"), ("write", "y", "plain", 1)],
     [("write", "x", "plain", 2), ("change", "y", "both", 1, 2, (1, 2))]],
    [[(2, 0), (1, 0)], [(1, 2), (2, 1)]])


class RunTest(unittest.TestCase):
    def test_runs(self):
        for many in range(len(RUN) + 1):
            self.assertIs(is_run(read(TEXT), RUN[:many]), True)
        self.assertIs(is_run(thing=[], program=(["x"], [[]])), True)

    def refuse(self, thing, number):
        self.assertIs(is_run(read(TEXT), thing), False)
        with self.assertRaises(NoRun) as caught:
            graph_of(read(TEXT), thing)
        self.assertEqual(caught.exception.number, number)
        self.assertNotIsInstance(caught.exception.number, bool)

    def test_things_that_are_no_runs(self):
        for thing in [tuple(RUN), (), "", 0, 1, dict(RUN), RUN[0], Machine(read(TEXT)), SENT_GRAPH, *STRANGE]:
            self.refuse(thing, None)
        for thing in NO_STEPS:
            self.refuse([thing], 0)
            self.refuse([(0, 1), (0, None), thing], 2)
        self.refuse(RUN[1:], 0)
        self.refuse(RUN[:1] + RUN[2:], 2)
        self.refuse(RUN[:2] + RUN[1:], 2)
        self.refuse([*RUN, RUN[-1]], 5)
        self.refuse([*RUN, (1, None)], 5)
        self.refuse([(1, 0), (0, None)], 1)

    def test_graphs_of_runs(self):
        graph = graph_of(read(TEXT), RUN)
        self.assertIsInstance(graph, Graph)
        self.assertEqual(graph, Graph(
            [[("write", "x", "plain", 1), ("fence", "both"), ("write", "y", "giving", 1)],
             [("read", "y", "taking", 0, None), ("read", "x", "plain", 0, None)], []], [[(0, 0)], [(0, 2)]]))
        self.assertEqual(graph_of(run=[], program=read(TEXT)), Graph([[], [], []], [[], []]))
        self.assertEqual(graph_of((["x"], [[]]), []), Graph([[]], [[]]))

    def test_no_programs(self):
        refuses_programs(self, lambda program: is_run(program, []))
        refuses_programs(self, lambda program: is_run(program, None))
        refuses_programs(self, lambda program: graph_of(program, []))
        refuses_programs(self, lambda program: graph_of(program, None))

    def test_nothing_handed_in_is_changed(self):
        program, run = read(TEXT), list(RUN)
        is_run(program, run)
        graph_of(program, run)
        self.assertEqual((program, run), (read(TEXT), RUN))
        run.append(None)
        self.assertRaises(NoRun, graph_of, program, run)
        self.assertEqual((program, run), (read(TEXT), [*RUN, None]))


class RunOfTest(unittest.TestCase):
    def test_plain_runs(self):
        told = run_of(read(SENT), SENT_GRAPH)
        self.assertEqual(told, [(1, 1), (1, None), (1, 1), (2, 1), (2, 1), (0, 2), (0, 0)])
        self.assertIs(type(told), list)
        self.assertIs(is_run(read(SENT), told), True)
        self.assertEqual(graph_of(read(SENT), told), SENT_GRAPH)
        self.assertEqual(run_of(read(SENT), Graph([[], [], []], [[], []])), [])
        self.assertEqual(run_of((["x"], [[]]), Graph([[]], [[]])), [])

    def test_the_least_hand_goes_on_as_soon_as_its_source_is_there(self):
        text = ("boxes x\nhand\nread r x plain\nread r x plain\nread r x plain\nhand\nwrite x 1 plain\n"
                "write x 2 plain\nwrite x 3 plain")
        reads = [("read", "x", "plain", 0, None), ("read", "x", "plain", 1, (1, 0)), ("read", "x", "plain", 2, (1, 1))]
        lines = [reads, [("write", "x", "plain", 1), ("write", "x", "plain", 2), ("write", "x", "plain", 3)]]
        graph = Graph(lines, [[(1, 0), (1, 1), (1, 2)]])
        self.assertEqual(run_of(read(text), graph), [(0, 0), (1, 1), (0, 1), (1, 2), (0, 2), (1, 3)])
        self.assertEqual(run_of(read(text), graph, by=[1, 0]), [(1, 1), (1, 2), (1, 3), (0, 0), (0, 1), (0, 2)])

    def test_by_each_order_of_the_hands(self):
        program = read(SENT)
        for order, run in [
            ([0, 1, 2], [(1, 1), (1, None), (1, 1), (2, 1), (2, 1), (0, 2), (0, 0)]),
            ([0, 2, 1], [(2, 1), (1, 2), (1, None), (1, 1), (2, 1), (0, 2), (0, 0)]),
            ([1, 0, 2], [(1, 1), (1, None), (1, 1), (2, 1), (2, 1), (0, 2), (0, 0)]),
            ([1, 2, 0], [(1, 1), (1, None), (1, 1), (2, 1), (2, 1), (0, 2), (0, 0)]),
            ([2, 0, 1], [(2, 1), (1, 2), (1, None), (1, 1), (2, 1), (0, 2), (0, 0)]),
            ([2, 1, 0], [(2, 1), (1, 2), (1, None), (1, 1), (2, 1), (0, 2), (0, 0)]),
        ]:
            self.assertEqual(run_of(program, SENT_GRAPH, by=order), run, order)
            self.assertEqual(graph_of(program, run), SENT_GRAPH)
        self.assertEqual(run_of(program, SENT_GRAPH, by=None), run_of(program, SENT_GRAPH))
        self.assertEqual(run_of(by=[2, 1, 0], graph=SENT_GRAPH, program=program)[0], (2, 1))
        text = "boxes x\nhand\nwrite x 1 plain\nhand\nwrite x 2 plain\nhand\nwrite x 3 plain\nhand\nfence both"
        lines = [[("write", "x", "plain", 1)], [("write", "x", "plain", 2)], [("write", "x", "plain", 3)],
                 [("fence", "both")]]
        row = [(2, 0), (0, 0), (1, 0)]
        for order in permutations(range(4)):
            done, run = [], []
            for hand in order:
                done.append((hand, 0))
                here = [call for call in row if call in done]
                run.append((hand, None if hand == 3 else here.index((hand, 0)) + 1))
            self.assertEqual(run_of(read(text), Graph(lines, [row]), by=list(order)), run)

    def no_graph(self, text, thing, rule, **by):
        with self.assertRaises(NoGraph) as caught:
            run_of(read(text), thing, **by)
        self.assertEqual(caught.exception.rule, rule)

    def test_no_drawings(self):
        for thing in [*STRANGE, (SENT_GRAPH.lines(), SENT_GRAPH.rows()), repr(SENT_GRAPH), [], "", 0, 1, Graph,
                      Graph([], []), Graph([[], []], [[], []]), Graph([[], [], []], [[]]),
                      Graph([[], [], [], []], [[], []]), Graph([[("fence", "both")], [], []], [[], []]),
                      Graph(SENT_GRAPH.lines(), [[(2, 0), (1, 0)], [(1, 2)]])]:
            self.no_graph(SENT, thing, None)
            for by in [[0, 1, 2], [], [0], "012", None]:
                self.no_graph(SENT, thing, None, by=by)

    def test_drawings_that_break_rules(self):
        ring = "boxes x\nhand\nread r x plain\nwrite x 0 plain"
        rung = Graph([[("read", "x", "plain", 0, (0, 1)), ("write", "x", "plain", 0)]], [[(0, 1)]])
        parted = "boxes x\nhand\nwrite x 0 plain\nhand\nchange r x add 1 loose"
        part = Graph([[("write", "x", "plain", 0)], [("change", "x", "loose", 0, 1, None)]], [[(0, 0), (1, 0)]])
        stale = "boxes x\nhand\nwrite x 0 plain\nwrite x 0 plain\nhand\nchange r x add 1 loose"
        late = Graph([[("write", "x", "plain", 0)] * 2, []], [[(0, 1), (0, 0)]])
        both = Graph([[("write", "x", "plain", 0)] * 2, [("change", "x", "loose", 0, 1, None)]],
                     [[(0, 1), (0, 0), (1, 0)]])
        for text, graph, rule in [(ring, rung, "ring"), (parted, part, "parted"), (stale, late, "stale"),
                                  (stale, both, "parted")]:
            self.no_graph(text, graph, rule)
            self.no_graph(text, graph, rule, by=None)
            self.no_graph(text, graph, rule, by=[])
            self.no_graph(text, graph, rule, by="no order")

    def test_no_orders(self):
        program = read(SENT)
        for by in [[], [0], [0, 1], [0, 1, 1], [0, 1, 2, 2], [0, 1, 2, 3], [1, 2, 3], [-1, 0, 1], (0, 1, 2), "012", 0,
                   [0, 1, "2"], [0, True, 2], [False, 1, 2], [0, 1, 2.0], [0, 1, None], [[0, 1, 2]], {0: 0, 1: 1, 2: 2},
                   range(3), [0, 1, 10 ** 59], *[thing for thing in STRANGE if thing is not None],
                   *[[0, 1, thing] for thing in STRANGE]]:
            with self.assertRaises(NoHand) as caught:
                run_of(program, SENT_GRAPH, by=by)
            self.assertIsNone(caught.exception.hand)
        self.assertEqual(run_of((["x"], [[]]), Graph([[]], [[]]), by=[0]), [])
        with self.assertRaises(NoHand):
            run_of((["x"], [[]]), Graph([[]], [[]]), by=[])

    def test_by_goes_by_its_name_alone(self):
        with self.assertRaises(TypeError):
            run_of(read(SENT), SENT_GRAPH, [0, 1, 2])

    def test_no_programs(self):
        refuses_programs(self, lambda program: run_of(program, Graph([[]], [[]])))
        refuses_programs(self, lambda program: run_of(program, None, by=None))
        refuses_programs(self, lambda program: run_of(program, None, by="no order"))
        self.assertRaises(NoProgram, run_of, None, None)

    def test_long_runs(self):
        program = long_program()
        machine = Machine(program)
        while not machine.is_over():
            hand, where = machine.steps()[-1]
            machine.step(hand, where=where)
        graph = machine.graph()
        for by in permutations(range(4)):
            self.assertEqual(graph_of(program, run_of(program, graph, by=list(by))), graph)

    def test_told_anew_and_nothing_changed(self):
        program, graph, by = read(SENT), Graph(SENT_GRAPH.lines(), SENT_GRAPH.rows()), [2, 0, 1]
        told = run_of(program, graph, by=by)
        kept = list(told)
        told.clear()
        by.reverse()
        self.assertEqual(run_of(program, graph, by=[2, 0, 1]), kept)
        self.assertEqual((program, graph, by), (read(SENT), SENT_GRAPH, [1, 0, 2]))


if __name__ == "__main__":
    unittest.main()
