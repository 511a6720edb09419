"""Promise 7.2, and what 0.2, 0.4 and 1.2 say of it."""

import copy
import unittest
from itertools import permutations

from readsfrom.goer import Goer, count_of, first_graph, next_graph
from readsfrom.programtexts import read
from readsfrom.runs import run_of
from tests import grown
from tests.small import CROSSWISE, WAITING_IN_VAIN, small_programs
from tests.things import refuses_programs

ALIKE = [
    # Two, three and four alike hands, and two pairs.
    "boxes x\nhand\nwrite x 1 plain\nhand\nwrite x 1 plain",
    "boxes x\nhand\nread r x plain\nhand\nwrite x 1 plain\nhand\nread r x plain",
    "boxes x\nhand\nchange r x add 1 loose\nhand\nchange r x add 1 loose\nhand\nchange r x add 1 loose",
    "boxes x\nhand\nread r x plain\nwrite x 1 plain\nhand\nread r x plain\nwrite x 1 plain\nhand\n"
    "read r x plain\nwrite x 1 plain",
    "boxes x\n" + "\n".join(["hand\nread r x plain\nwrite x 1 plain"] * 2 + ["hand\nread r x plain"] * 2),
    "boxes x\nhand\nread r x plain\nhand\nread s x plain\nhand\nread r x plain\nhand\nwrite x 1 plain",
    "boxes x\n" + "\n".join(["hand\nwrite x 1 plain", "hand\nread r x plain"] * 2),
    "boxes x\n" + "\n".join(["hand\nswap r x 0 1 both"] * 4),
    "boxes x y\n" + "\n".join(["hand\nwrite x 1 plain\nfence both\nread r y plain"] * 2) + "\nhand\nwrite y 1 plain",
    "boxes x\nhand\nhand\nhand\nread r x plain\nhand\nwrite x 1 plain",
    "boxes x\nhand\nhand\nhand\nhand",
]


def alike_firsts(program, ended):
    """The graphs that stand ahead of all that come of them by exchanging alike hands."""
    hands = program[1]
    orders = [order for order in permutations(range(len(hands)))
              if all(hands[order[hand]] == hands[hand] for hand in range(len(hands)))]
    told = []
    for at, (lines, rows) in enumerate(ended):
        places = [ended.index(grown.exchanged(lines, rows, order)) for order in orders]
        if at == min(places):
            told.append((lines, rows))
    return told


class GoerTest(unittest.TestCase):
    def asked_through(self, program, **asked):
        """All that a goer tells, what it tells of itself being looked at by the way."""
        goer = Goer(program, **asked)
        self.assertEqual((goer.told(), goer.held()), (0, 0))
        told = []
        most = sum(len(deeds) for deeds in program[1])
        graph = goer.go()
        while graph is not None:
            told.append((graph.lines(), graph.rows()))
            self.assertEqual(goer.told(), len(told))
            self.assertEqual(goer.held(), len(run_of(program, graph)))
            self.assertLessEqual(goer.held(), most)
            graph = goer.go()
        for _ in range(3):
            self.assertIsNone(goer.go())
            self.assertEqual(goer.told(), len(told))
            self.assertLessEqual(goer.held(), most)
        return told

    def test_just_the_ended_graphs_in_order(self):
        for program in small_programs():
            _, ended = grown.all_grown(program)
            self.assertEqual(self.asked_through(program), ended, program)
            self.assertEqual(self.asked_through(program, alike=False), ended, program)

    def test_of_alike_hands_the_first_only(self):
        fewer = 0
        for program in [read(text) for text in ALIKE] + small_programs():
            _, ended = grown.all_grown(program)
            firsts = alike_firsts(program, ended)
            self.assertEqual(self.asked_through(program, alike=True), firsts, program)
            fewer += len(firsts) < len(ended)
        self.assertGreater(fewer, 20)

    def test_how_many_of_alike_hands(self):
        for text, all_of_them, firsts in [
            (ALIKE[0], 2, 1), (ALIKE[1], 4, 3), (ALIKE[2], 6, 1), (ALIKE[7], 4, 1), (ALIKE[10], 1, 1),
            (CROSSWISE.format("plain", "plain"), 4, 4),
        ]:
            program = read(text)
            self.assertEqual(len(self.asked_through(program)), all_of_them)
            self.assertEqual(len(self.asked_through(program, alike=True)), firsts)

    def test_two_goers_by_turns(self):
        program = read(ALIKE[4])
        one, other = Goer(program), Goer(program, alike=True)
        told, firsts = [], []
        for _ in range(count_of(program) + 2):
            told.append(one.go())
            firsts.append(other.go())
        self.assertEqual(told[-2:], [None, None])
        self.assertIsNone(firsts[-1])
        firsts = [graph for graph in firsts if graph is not None]
        self.assertEqual([graph for graph in told if graph in firsts], firsts)
        self.assertEqual(other.told(), len(firsts))
        self.assertEqual(one.told(), len(told) - 2)

    def test_a_goer_goes_on_from_each_to_the_next(self):
        program = read(WAITING_IN_VAIN)
        goer = Goer(program)
        graph = first_graph(program)
        while graph is not None:
            self.assertEqual(goer.go(), graph)
            graph = next_graph(program, graph)
        self.assertIsNone(goer.go())

    def test_a_program_changed_behind_changes_nothing(self):
        for alike in (False, True):
            program = read(ALIKE[3])
            kept = copy.deepcopy(program)
            goer = Goer(program, alike=alike)
            first = goer.go()
            self.assertEqual(program, kept)
            program[0].append("z")
            program[1][0].clear()
            program[1].append([])
            first.lines().clear()
            first.rows()[0].clear()
            told = [first]
            while told[-1] is not None:
                told.append(goer.go())
            self.assertEqual([(graph.lines(), graph.rows()) for graph in told[:-1]],
                             self.asked_through(kept, alike=alike))

    def test_a_big_program_is_begun_at_once(self):
        hands = [[("read", "r", "x", "plain"), ("write", "x", 1, "plain")] * 2 for _ in range(4)]
        for alike in (False, True):
            goer = Goer((["x"], hands), alike=alike)
            told = [goer.go() for _ in range(50)]
            self.assertEqual(len({repr(graph) for graph in told}), 50)
            self.assertEqual((goer.told(), goer.held()), (50, 16))

    def test_by_name_and_by_place(self):
        program = read("boxes x\nhand\nread r x plain")
        self.assertEqual(Goer(alike=True, program=program).go(), first_graph(program))
        with self.assertRaises(TypeError):
            Goer(program, True)

    def test_no_programs(self):
        refuses_programs(self, Goer)
        refuses_programs(self, lambda program: Goer(program, alike=True))


if __name__ == "__main__":
    unittest.main()
