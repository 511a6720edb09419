"""Promise 8.2, and what 0.2, 0.4 and 1.2 say of it."""

import copy
import unittest

from readsfrom.clashes import clash_of, clashing
from readsfrom.errors import TooMany
from readsfrom.goer import Goer
from readsfrom.graphs import Graph
from readsfrom.programtexts import read
from readsfrom.runs import graph_of, is_run
from readsfrom.turns import outcomes, turn_outcomes
from tests import grown, oracle
from tests.small import (
    ADDING, ALL_ADDING, CROSSWISE, CROSSWISE_APART, KEPT_OUT, SENT, SENT_AND_WAITED_FOR, SENT_BY_FENCES, SENT_ON,
    TWO_LOOKS, WAITING_TOO_LATE, WRITING, small_programs,
)
from tests.test_rules import SMALL
from tests.things import refuses_programs


class ClashingTest(unittest.TestCase):
    def test_all_graphs_of_small_programs(self):
        some = 0
        for program in small_programs():
            told, _ = grown.all_grown(program)
            for lines, rows in told:
                pairs = clashing(program, Graph(lines, rows))
                self.assertEqual(pairs, grown.clashes(lines))
                some += len(pairs) > 0
        self.assertGreater(some, 1000)

    def test_drawings_that_break_rules(self):
        for text in SMALL:
            program = read(text)
            for lines, rows in oracle.drawings(program, oracle.numbers_of(program)):
                self.assertEqual(clashing(program, Graph(lines, rows)), grown.clashes(lines))

    def test_pairs_by_hand(self):
        program = read("boxes x y\nhand\nwrite x 1 plain\nwrite y 1 giving\nhand\nread r y taking\nread s x plain\n"
                       "write x 2 plain")
        writes = [("write", "x", "plain", 1), ("write", "y", "giving", 1)]
        apart = [("read", "y", "taking", 0, None), ("read", "x", "plain", 0, None), ("write", "x", "plain", 2)]
        graph = Graph([writes, apart], [[(0, 0), (1, 2)], [(0, 1)]])
        self.assertEqual(clashing(program, graph), [((0, 0), (1, 1)), ((0, 0), (1, 2)), ((0, 1), (1, 0))])
        met = [("read", "y", "taking", 1, (0, 1)), ("read", "x", "plain", 1, (0, 0)), ("write", "x", "plain", 2)]
        self.assertEqual(clashing(program, Graph([writes, met], [[(0, 0), (1, 2)], [(0, 1)]])), [])

    def test_what_does_not_clash(self):
        for text, lines, rows in [
            # Two that read, two of one hand, of unlike boxes, fences.
            ("boxes x\nhand\nread r x plain\nhand\nread r x plain",
             [[("read", "x", "plain", 0, None)], [("read", "x", "plain", 0, None)]], [[]]),
            ("boxes x\nhand\nwrite x 1 plain\nread r x plain",
             [[("write", "x", "plain", 1), ("read", "x", "plain", 1, (0, 0))]], [[(0, 0)]]),
            ("boxes x y\nhand\nwrite x 1 plain\nhand\nread r y plain",
             [[("write", "x", "plain", 1)], [("read", "y", "plain", 0, None)]], [[(0, 0)], []]),
            ("boxes x\nhand\nfence both\nhand\nfence both", [[("fence", "both")], [("fence", "both")]], [[]]),
            ("boxes x\nhand\nhand", [[], []], [[]]),
        ]:
            self.assertEqual(clashing(read(text), Graph(lines, rows)), [])

    def test_what_is_told_is_the_askers_own(self):
        program = read(CROSSWISE.format("plain", "plain"))
        kept = copy.deepcopy(program)
        graph = Goer(program).go()
        told = clashing(graph=graph, program=program)
        self.assertEqual(told, [((0, 0), (1, 1)), ((0, 1), (1, 0))])
        told.clear()
        self.assertEqual(len(clashing(program, graph)), 2)
        self.assertEqual(program, kept)

    def test_no_programs(self):
        refuses_programs(self, lambda program: clashing(program, Graph([[]], [[]])))
        refuses_programs(self, lambda program: clashing(program, None))
        refuses_programs(self, clash_of)


class ClashOfTest(unittest.TestCase):
    def has_clash(self, program):
        """Whether a clash is told, which must be one where it is."""
        told = clash_of(program)
        if told is None:
            return False
        self.assertEqual((type(told), len(told), type(told[0])), (tuple, 3, list))
        run, one, other = told
        self.assertIs(is_run(program, run), True, told)
        graph = graph_of(program, run)
        self.assertTrue(one < other)
        self.assertIn((one, other), grown.clashes(graph.lines()))
        self.assertTrue(takes_turns(program, run), told)
        return True

    def test_just_where_some_run_has_one(self):
        none = 0
        for program in small_programs():
            turned, _ = grown.all_turned(program)
            clashes = [lines for lines, _ in turned.values() if grown.clashes(lines)]
            self.assertIs(self.has_clash(program), len(clashes) > 0, program)
            none += len(clashes) == 0
        self.assertGreater(none, 100)

    def test_where_none_is_all_ended_graphs_are_of_runs_that_take_turns(self):
        many = 0
        for program in small_programs() + [read(KEPT_OUT.format("giving", "taking"))]:
            if clash_of(program) is None:
                _, ended = grown.all_grown(program)
                _, turned = grown.all_turned(program)
                self.assertEqual([repr(graph) for graph in ended], [repr(graph) for graph in grown.in_order(
                    program[0], turned.values())])
                self.assertEqual(outcomes(program), turn_outcomes(program))
                many += len(ended) > 1
        self.assertGreater(many, 4)

    def test_known_ones(self):
        for form, modes, is_there in [
            (CROSSWISE, ("giving", "taking"), True),
            (CROSSWISE_APART, ("both",), True),
            (SENT, ("giving", "taking"), True),
            (SENT_AND_WAITED_FOR, ("giving", "taking"), False),
            (SENT_AND_WAITED_FOR, ("plain", "taking"), True),
            (SENT_AND_WAITED_FOR, ("giving", "loose"), True),
            (SENT_BY_FENCES, ("giving", "taking"), True),
            (TWO_LOOKS, ("giving", "taking"), True),
            (ADDING, ("both",), False),
            (ADDING, ("loose",), True),
            (ADDING, ("giving",), True),
            (ADDING, ("taking",), True),
            (KEPT_OUT, ("giving", "taking"), False),
            (KEPT_OUT, ("giving", "both"), False),
            (KEPT_OUT, ("loose", "taking"), True),
            (KEPT_OUT, ("giving", "loose"), True),
            (SENT_ON, ("giving", "taking"), True),
            (WAITING_TOO_LATE, (), True),
        ]:
            self.assertIs(self.has_clash(read(form.format(*modes))), is_there, (form, modes))

    def test_a_word_sent_on(self):
        form = ("boxes x y z\nhand\nwrite x 1 plain\n{0}\nhand\nwait r y 1 {1}\n{2}\nhand\nwait r z 1 {3}\nread s x plain")
        for parts, is_there in [
            (("write y 1 giving", "taking", "write z 1 giving", "taking"), False),
            (("fence giving\nwrite y 1 giving", "taking", "change r z put 1 both", "taking"), False),
            (("write y 1 giving", "taking", "fence both\nwrite z 1 giving", "taking"), False),
            (("write y 1 giving", "loose", "write z 1 giving", "taking"), True),
            (("write y 1 giving", "taking", "write z 1 loose", "taking"), True),
            (("write y 1 giving", "taking", "write z 1 giving", "plain"), True),
        ]:
            self.assertIs(self.has_clash(read(form.format(*parts))), is_there, parts)

    def test_changes_pass_on_what_they_read(self):
        # The last hand takes of the middle one's change, which itself gives nothing.
        form = ("boxes x y\nhand\nwrite x 1 plain\nchange r y add 1 both\nhand\ngrab r y 1 2 {0}\n"
                "hand\ngrab r y 2 3 {1}\nread s x plain")
        for modes, is_there in [(("both", "both"), False), (("both", "loose"), True), (("giving", "both"), True)]:
            self.assertIs(self.has_clash(read(form.format(*modes))), is_there, modes)
        text = ("boxes x y\nhand\nwrite x 1 plain\nchange r y put 1 both\nhand\nfence giving\ngrab r y 1 2 taking\n"
                "hand\ngrab r y 2 3 both\nread s x plain")
        self.assertIs(self.has_clash(read(text)), True)

    def test_fences(self):
        form = ("boxes x y\nhand\nwrite x 1 plain\n{0}change r y put 1 both\nhand\ngrab r y 1 2 both\n{1}read s x plain\n"
                "write x 2 plain")
        for parts in [("", ""), ("fence giving\n", ""), ("", "fence taking\n"), ("fence both\n", "fence both\n")]:
            self.assertIs(self.has_clash(read(form.format(*parts))), False, parts)

    def test_no_notes(self):
        for text in ["boxes x\nhand", "boxes x\nhand\nclaim r is 1\nhand\nskip r is 0 1\nwrite x 1 plain",
                     "boxes x\nhand\nwait r x 1 plain\nhand\nfence both", "boxes x y\nhand\nwrite x 1 plain\nhand"]:
            self.assertIsNone(clash_of(program=read(text)))

    def test_many_graphs(self):
        lock = [("grab", "g", "l", 0, 1, "both"), ("read", "r", "x", "plain"), ("write", "x", 1, "plain"),
                ("write", "l", 0, "giving")]
        self.assertIsNone(clash_of((["l", "x"], [lock] * 4)))
        self.assertIs(self.has_clash((["l", "x"], [lock] * 3 + [lock[1:]])), True)
        with self.assertRaises(TooMany) as caught:
            clash_of(read(ALL_ADDING))
        self.assertEqual(caught.exception.many, 100000)
        self.assertIs(self.has_clash(read(WRITING)), True)


def takes_turns(program, run):
    """Whether each step of the run reads the last message, or writes behind it."""
    lengths = {box: 0 for box in program[0]}
    lines = graph_of(program, run).lines()
    ats = [0 for _ in lines]
    for hand, place in run:
        note = lines[hand][ats[hand]]
        ats[hand] += 1
        if note[0] == "fence":
            continue
        if place != lengths[note[1]] + (note[0] == "write"):
            return False
        lengths[note[1]] += note[0] != "read"
    return True


if __name__ == "__main__":
    unittest.main()
