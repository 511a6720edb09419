"""Promise 7.1, and what 0.2, 0.4 and 1.2 say of it."""

import copy
import unittest

from readsfrom.errors import NoGraph, NoNumber, NoProgram, TooMany
from readsfrom.goer import MOST_GRAPHS, count_of, first_graph, next_graph
from readsfrom.graphs import Graph
from readsfrom.programtexts import read
from readsfrom.rules import breach
from readsfrom.runs import run_of
from tests import grown
from tests.small import CROSSWISE, PLAIN, SENT, WRITING, small_programs
from tests.things import STRANGE, refuses_programs


def gone_through(program):
    """All graphs from the first one to the next and on."""
    graph, told = first_graph(program), []
    while graph is not None:
        told.append(graph)
        graph = next_graph(program, graph)
    return told


class GoingTest(unittest.TestCase):
    def test_just_the_ended_graphs_in_order(self):
        many = 0
        for program in small_programs():
            _, ended = grown.all_grown(program)
            told = gone_through(program)
            self.assertEqual([(graph.lines(), graph.rows()) for graph in told], ended, program)
            self.assertEqual(count_of(program), len(ended))
            many += len(told)
        self.assertGreater(many, 1500)

    def test_runs_rise(self):
        for text in [*PLAIN, CROSSWISE.format("plain", "plain"), SENT.format("loose", "loose")]:
            program = read(text)
            runs = [run_of(program, graph) for graph in gone_through(program)]
            keys = [grown.key_of(run) for run in runs]
            self.assertEqual(keys, sorted(keys))
            self.assertEqual(runs, [grown.plain_run(program[0], *ended) for ended in grown.all_grown(program)[1]])

    def test_by_hand(self):
        program = read("boxes x\nhand\nread r x plain\nhand\nwrite x 1 plain\nwrite x 2 plain")
        writes = [("write", "x", "plain", 1), ("write", "x", "plain", 2)]
        row = [(1, 0), (1, 1)]
        sources = [(None, 0), ((1, 0), 1), ((1, 1), 2)]
        self.assertEqual(gone_through(program), [
            Graph([[("read", "x", "plain", number, source)], writes], [row]) for source, number in sources])

    def test_places_tell_the_order_among_one_hands_steps(self):
        program = read("boxes x\nhand\nwrite x 1 plain\nhand\nwrite x 2 plain")
        lines = [[("write", "x", "plain", 1)], [("write", "x", "plain", 2)]]
        self.assertEqual(gone_through(program), [Graph(lines, [[(1, 0), (0, 0)]]), Graph(lines, [[(0, 0), (1, 0)]])])

    def test_programs_that_end_at_once(self):
        for text in ["boxes x\nhand", "boxes x\nhand\nclaim r is 1\nwrite x 1 plain", "boxes x\nhand\nwait r x 1 plain",
                     "boxes x y\nhand\nskip r is 0 8\nwrite x 1 plain\nhand\nclaim r is 0\nhand"]:
            program = read(text)
            nothing = Graph([[] for _ in program[1]], [[] for _ in program[0]])
            self.assertEqual(first_graph(program), nothing)
            self.assertIsNone(next_graph(program, nothing))
            self.assertEqual(count_of(program, most=1), 1)

    def test_the_next_one_is_told_of_the_graph_alone(self):
        program = read(CROSSWISE.format("plain", "plain"))
        told = gone_through(program)
        self.assertEqual(len(told), 4)
        for at in (2, 0, 3, 1, 2):
            drawn = Graph(told[at].lines(), told[at].rows())
            self.assertEqual(next_graph(read(CROSSWISE.format("plain", "plain")), drawn), [*told, None][at + 1])

    def test_by_name_and_by_place(self):
        program = read("boxes x\nhand\nread r x plain")
        graph = first_graph(program=program)
        self.assertIsNone(next_graph(graph=graph, program=program))
        self.assertEqual(count_of(program=program, most=1), 1)
        with self.assertRaises(TypeError):
            count_of(program, 1)

    def test_what_is_told_is_the_askers_own(self):
        program = read("boxes x\nhand\nread r x plain\nhand\nwrite x 1 plain")
        kept = copy.deepcopy(program)
        graph = first_graph(program)
        shown = repr(graph)
        graph.lines()[0].append("more")
        graph.rows()[0].clear()
        behind = next_graph(program, graph)
        self.assertNotEqual(behind, graph)
        self.assertEqual((program, repr(graph)), (kept, shown))
        program[1][0].clear()
        self.assertEqual(repr(graph), shown)
        self.assertEqual(behind, next_graph(kept, graph))


class NoNextTest(unittest.TestCase):
    def refuses(self, program, thing, rule):
        with self.assertRaises(NoGraph) as caught:
            next_graph(program, thing)
        self.assertEqual(caught.exception.rule, rule, thing)

    def test_no_drawings(self):
        program = read(CROSSWISE.format("plain", "plain"))
        graph = first_graph(program)
        for thing in [*STRANGE, "x", 0, [], (), graph.lines(), (graph.lines(), graph.rows()), repr(graph),
                      Graph(graph.lines()[:1], graph.rows()), Graph(graph.lines(), []), Graph([], []), Graph(1, None),
                      Graph(graph.lines(), [[(0, 0)], []]), first_graph(read("boxes x\nhand"))]:
            self.refuses(program, thing, None)

    def test_drawings_that_break_a_rule(self):
        program = read("boxes x y\nhand\nread r x loose\nwrite y 0 loose\nhand\nread r y loose\nwrite x 0 loose")
        ring = Graph([[("read", "x", "loose", 0, (1, 1)), ("write", "y", "loose", 0)],
                      [("read", "y", "loose", 0, (0, 1)), ("write", "x", "loose", 0)]], [[(1, 1)], [(0, 1)]])
        self.refuses(program, ring, "ring")
        program = read("boxes x\nhand\nchange r x put 1 loose\nhand\nchange r x put 1 loose")
        note = ("change", "x", "loose", 0, 1, None)
        self.refuses(program, Graph([[note], [note]], [[(0, 0), (1, 0)]]), "parted")
        program = read("boxes x\nhand\nwrite x 1 plain\nread r x plain")
        lines = [[("write", "x", "plain", 1), ("read", "x", "plain", 0, None)]]
        self.refuses(program, Graph(lines, [[(0, 0)]]), "stale")

    def test_a_broken_rule_is_told_ahead_of_not_being_ended(self):
        program = read("boxes x\nhand\nwrite x 1 plain\nread r x plain\nread s x plain")
        lines = [[("write", "x", "plain", 1), ("read", "x", "plain", 0, None)]]
        self.refuses(program, Graph(lines, [[(0, 0)]]), "stale")

    def test_graphs_that_are_not_ended(self):
        many = 0
        for program in small_programs()[:120]:
            told, ended = grown.all_grown(program)
            for lines, rows in told:
                if (lines, rows) not in ended:
                    self.assertIsNone(breach(program, Graph(lines, rows)))
                    self.refuses(program, Graph(lines, rows), "going")
                    many += 1
        self.assertGreater(many, 300)

    def test_stuck_graphs_are_ended(self):
        program = read("boxes x\nhand\nwait r x 2 plain\nhand\nwrite x 1 plain")
        self.assertIsNone(next_graph(program, Graph([[], [("write", "x", "plain", 1)]], [[(1, 0)]])))
        self.refuses(program, Graph([[], []], [[]]), "going")


class CountTest(unittest.TestCase):
    def test_most(self):
        self.assertEqual(MOST_GRAPHS, 100000)
        program = read(CROSSWISE.format("plain", "plain"))
        for most in (4, 5, 100000):
            self.assertEqual(count_of(program, most=most), 4)
        for most in (1, 2, 3):
            with self.assertRaises(TooMany) as caught:
                count_of(program, most=most)
            self.assertEqual(caught.exception.many, most)

    def test_no_numbers(self):
        program = read(CROSSWISE.format("plain", "plain"))
        for thing in [*STRANGE, "4", "", [4], (4,), 0, -1, 100001, 10 ** 59, -10 ** 59]:
            with self.assertRaises(NoNumber) as caught:
                count_of(program, most=thing)
            self.assertIs(caught.exception.number, thing)

    def test_many_graphs(self):
        program = (["x"], [[("change", "r", "x", "add", 1, "both")] * 2 for _ in range(4)])
        self.assertEqual(count_of(program), 2520)
        program = (["x"], [[("swap", "r", "x", 0, 1, "both")] * 4 for _ in range(4)])
        self.assertEqual(count_of(program), 4)
        program = (["x"], [[("read", "r", "x", "plain")] * 4 for _ in range(4)])
        self.assertEqual(count_of(program), 1)

    def test_more_graphs_than_are_counted(self):
        with self.assertRaises(TooMany) as caught:
            count_of(read(WRITING))
        self.assertEqual(caught.exception.many, 100000)

    def test_no_programs(self):
        refuses_programs(self, first_graph)
        refuses_programs(self, count_of)
        refuses_programs(self, lambda program: count_of(program, most=None))
        refuses_programs(self, lambda program: next_graph(program, None))
        refuses_programs(self, lambda program: next_graph(program, Graph([[]], [[]])))
        with self.assertRaises(NoProgram):
            count_of(None, most=0)


if __name__ == "__main__":
    unittest.main()
