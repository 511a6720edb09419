"""Promise 0.4, as far as it speaks of the machine, its runs and their graphs."""

import unittest
from itertools import permutations

from readsfrom.graphs import Graph
from readsfrom.machine import Machine
from readsfrom.outcomes import is_ended
from readsfrom.programtexts import read
from readsfrom.rules import is_graph
from readsfrom.runs import graph_of, is_run, run_of
from tests import oracle
from tests.test_rules import SMALL

MORE = [
    "boxes x y\nhand\nwrite x 1 plain\nread r y plain\nhand\nwrite y 1 plain\nread r x plain",
    "boxes x y\nhand\nchange r x put 1 both\nread r y taking\nhand\nchange r y put 1 giving\nread r x taking",
    "boxes x\nhand\nwrite x 1 plain\nhand\nread r x loose\nread r x loose\nhand\nwrite x 2 plain",
    "boxes x y\nhand\nwrite x 1 plain\nfence both\nchange r y put 1 loose\nhand\nswap r y 1 2 loose\nfence taking\n"
    "read s x plain",
    "boxes x y\nhand\nfence both\nwrite x 1 loose\nhand\nread r x loose\nskip r is 0 2\nfence taking\n"
    "write y 1 giving\nhand\nwait r y 1 taking\nread s x plain",
    "boxes x y\nhand\nwrite x 1 plain\nwrite y 1 giving\nwrite y 2 plain\nhand\nread r y taking\nread r x plain",
    "boxes x y\nhand\nwrite x 1 plain\nwrite y 1 giving\nhand\nread r y loose\nread r y taking\nread s x plain",
    "boxes x y\nhand\nwrite x 1 giving\nhand\nwrite y 1 giving\nhand\nread r x taking\nread s y taking\nhand\n"
    "read r y taking\nread s x taking",
    "boxes x\nhand\nwrite x 1 plain\nwrite x 2 plain\nhand\nwrite x 3 plain\nread r x plain\nhand\n"
    "change r x put 4 loose",
    "boxes x\nhand\ngrab r x 0 1 taking\nwrite x 0 giving\nhand\ngrab r x 0 1 taking\nwrite x 0 giving",
    "boxes x y\nhand\nread r x plain\nwrite y r plain\nhand\nread r y plain\nwrite x r plain",
    "boxes x\nhand\nchange r x add 1 loose\nhand\nchange r x add 1 giving\nhand\nwrite x 4 plain\nread r x taking",
    "boxes x\nhand\nwrite x 1 giving\nhand\nswap r x 1 2 taking\nclaim r is 1\nhand\nswap r x 1 2 both\nread r x plain",
]


def graphs_by_weaving(machine, told):
    """All graphs that the machine tells from here on, by their repr."""
    graph = machine.graph()
    told[repr(graph)] = graph
    for hand, where in machine.steps():
        machine.step(hand, where=where)
        graphs_by_weaving(machine, told)
        machine.back()
    return told


def listings(graph):
    """All orders of a graph's notes along which lines and sources let them go."""
    lines = graph.lines()
    for hands in sorted(set(permutations([hand for hand, line in enumerate(lines) for _ in line]))):
        listed = []
        for hand in hands:
            listed.append((hand, len([one for one in listed if one[0] == hand])))
        if all(oracle.source(lines, call) in [None, *listed[:at]] for at, call in enumerate(listed)):
            yield listed


def reckoned(boxes, graph, listed):
    """The listing as steps, each place reckoned among the notes listed ahead."""
    lines, rows = graph.lines(), graph.rows()
    steps = []
    for at, call in enumerate(listed):
        note = lines[call[0]][call[1]]
        place = None
        if note[0] != "fence":
            row = rows[boxes.index(note[1])]
            stood = [one for one in row if one in listed[:at + 1]]
            of = call if note[0] == "write" else note[-1]
            place = 0 if of is None else stood.index(of) + 1
        steps.append((call[0], place))
    return steps


class AgreementTest(unittest.TestCase):
    def test_the_machine_and_the_rules_tell_the_same(self):
        for text in SMALL + MORE:
            program = read(text)
            woven = graphs_by_weaving(Machine(program), {})
            drawn = {}
            for lines, rows in oracle.drawings(program, oracle.numbers_of(program)):
                graph = Graph(lines, rows)
                if not oracle.broken(lines, rows):
                    drawn[repr(graph)] = graph
            self.assertEqual(sorted(woven), sorted(drawn), text)

    def test_each_graph_is_told_by_its_runs(self):
        many = 0
        for text in SMALL + MORE:
            program = read(text)
            hands = range(len(program[1]))
            for graph in graphs_by_weaving(Machine(program), {}).values():
                self.assertIs(is_graph(program, graph), True)
                self.assertEqual(graph_of(program, run_of(program, graph)), graph)
                for by in permutations(hands):
                    run = run_of(program, graph, by=list(by))
                    self.assertIs(is_run(program, run), True)
                    self.assertEqual(graph_of(program, run), graph)
                many += 1
        self.assertGreater(many, 500)

    def test_each_listing_is_a_run_of_the_graph(self):
        many = 0
        for text in SMALL + MORE:
            program = read(text)
            for graph in graphs_by_weaving(Machine(program), {}).values():
                hands = range(len(program[1]))
                told = []
                for listed in listings(graph):
                    steps = reckoned(program[0], graph, listed)
                    told.append(steps)
                    self.assertIs(is_run(program, steps), True, (text, graph, steps))
                    self.assertEqual(graph_of(program, steps), graph)
                for by in permutations(hands):
                    self.assertIn(run_of(program, graph, by=list(by)), told)
                many += len(told)
        self.assertGreater(many, 2000)

    def test_runs_of_one_graph_end_alike(self):
        for text in MORE:
            program = read(text)
            for graph in graphs_by_weaving(Machine(program), {}).values():
                machine = Machine(program)
                machine.play(run_of(program, graph, by=list(range(len(program[1])))[::-1]))
                self.assertIs(is_ended(program, graph), machine.is_over())


if __name__ == "__main__":
    unittest.main()
