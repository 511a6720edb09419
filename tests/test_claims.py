"""Promise 9.1, and what 0.2, 0.4 and 1.2 say of it."""

import copy
import unittest

from readsfrom.claims import failing, is_ledger, ledger_of
from readsfrom.errors import TooMany
from readsfrom.goer import Goer, count_of
from readsfrom.graphs import Graph
from readsfrom.machine import Machine
from readsfrom.programtexts import read
from readsfrom.runs import is_run, run_of
from tests import grown
from tests.small import CROSSWISE, KEPT_OUT, PLAIN, SENT, SENT_AND_WAITED_FOR, WRITING, small_programs
from tests.things import STRANGE, refuses_programs

HOLDING = SENT.format("giving", "taking")
FAILING = SENT.format("plain", "taking")
AT_ONCE = "boxes x\nhand\nwrite x 1 plain\nhand\nskip r is 0 1\nread r x plain\nclaim r isnt 0"
ADDS = [("change", "r", "x", "add", 1, "both")] * 4


class FailingTest(unittest.TestCase):
    def test_the_least_first_one_of_small_programs(self):
        some = 0
        for program in small_programs():
            told, _ = grown.all_grown(program)
            fails = [(lines, rows) for lines, rows in told if "failed" in grown.words_of(program, lines)]
            graph = failing(program)
            if graph is None:
                self.assertEqual(fails, [], program)
                continue
            # These are in the order of their runs, so the first of the least is the first one.
            least = min(fails, key=lambda one: sum(len(line) for line in one[0]))
            self.assertEqual((graph.lines(), graph.rows()), least, program)
            some += len(graph) > 1
        self.assertGreater(some, 20)

    def test_a_graph_that_is_not_ended(self):
        program = read("boxes x y\nhand\nwrite y 1 plain\nhand\nwrite x 1 plain\nhand\nread r x plain\nclaim r is 0\n"
                       "write y 2 plain")
        lines = [[], [("write", "x", "plain", 1)], [("read", "x", "plain", 1, (1, 0))]]
        self.assertEqual(failing(program), Graph(lines, [[(1, 0)], []]))
        self.assertEqual(ledger_of(program), ("fails", [(1, 1), (2, 1)]))

    def test_of_several_that_with_the_first_run(self):
        program = read("boxes x\nhand\nread r x plain\nread r x plain\nclaim r is 1\nhand\nread r x plain\nclaim r is 1\n"
                       "hand\nread r x plain\nclaim r is 1")
        self.assertEqual(run_of(program, failing(program)), [(1, 0)])
        program = read("boxes x\nhand\nread r x plain\nclaim r is 0\nhand\nwrite x 1 plain\nhand\nwrite x 1 plain")
        self.assertEqual(run_of(program, failing(program)), [(1, 1), (0, 1)])

    def test_claims_that_fail_at_once(self):
        program = read(AT_ONCE)
        self.assertEqual(failing(program), Graph([[], []], [[]]))
        self.assertEqual(ledger_of(program), ("fails", []))
        self.assertIs(is_ledger(program, ("fails", [])), True)
        self.assertIs(is_ledger(program, ("fails", [(0, 1)])), True)

    def test_no_programs(self):
        refuses_programs(self, failing)
        refuses_programs(self, ledger_of)
        refuses_programs(self, lambda program: is_ledger(program, None))
        refuses_programs(self, lambda program: is_ledger(program, ("holds", 1)))


class LedgerTest(unittest.TestCase):
    def test_of_small_programs(self):
        sorts = {"fails": 0, "holds": 0}
        for program in small_programs():
            told, ended = grown.all_grown(program)
            fails = any("failed" in grown.words_of(program, lines) for lines, _ in told)
            ledger = ledger_of(program)
            self.assertIs(type(ledger), tuple)
            if fails:
                self.assertEqual(ledger, ("fails", run_of(program, failing(program))))
            else:
                self.assertEqual(ledger, ("holds", len(ended)))
            self.assertIs(is_ledger(program, ledger), True, program)
            for many in range(len(ended) + 2):
                self.assertIs(is_ledger(program, ("holds", many)), not fails and many == len(ended))
            sorts[ledger[0]] += 1
        self.assertGreater(min(sorts.values()), 30)

    def test_each_run_behind_which_a_hand_failed(self):
        program = read(FAILING)
        many = [0, 0]
        goer = Goer(program)
        graph = goer.go()
        while graph is not None:
            run = run_of(program, graph, by=[1, 0])
            for length in range(len(run) + 1):
                machine = Machine(program)
                machine.play(run[:length])
                fails = "failed" in [machine.state(hand)[0] for hand in (0, 1)]
                self.assertIs(is_ledger(program, ("fails", run[:length])), fails)
                many[fails] += 1
            graph = goer.go()
        self.assertGreater(min(many), 0)

    def test_known_ones(self):
        for text, word in [
            (HOLDING, "holds"), (FAILING, "fails"), (SENT.format("giving", "loose"), "fails"),
            (SENT_AND_WAITED_FOR.format("giving", "taking"), "holds"),
            (SENT_AND_WAITED_FOR.format("loose", "taking"), "fails"),
        ]:
            program = read(text)
            ledger = ledger_of(program)
            self.assertEqual(ledger[0], word)
            self.assertEqual(failing(program) is None, word == "holds")
            if word == "holds":
                self.assertEqual(ledger, ("holds", count_of(program)))

    def test_programs_without_claims(self):
        for text in [*PLAIN[:3], CROSSWISE.format("plain", "plain"), KEPT_OUT.format("giving", "taking")]:
            program = read(text)
            self.assertIsNone(failing(program))
            self.assertEqual(ledger_of(program), ("holds", count_of(program)))

    def test_bent_ledgers_of_runs(self):
        program = read(FAILING)
        word, run = ledger_of(program)
        self.assertIs(is_ledger(program, (word, run)), True)
        for bent in [run[:-1], run[1:], run + run, run[::-1], run + [None], [list(step) for step in run], tuple(run),
                     [(hand, place + 1) for hand, place in run], [(True, place) for _, place in run], [], None, 3, "run",
                     {}, [()], [(0,)], [None], [(0, None)], [(0, 1.0)], repr(run), *STRANGE]:
            self.assertIs(is_ledger(program, (word, bent)), False, bent)
            self.assertIs(is_ledger(program, ("holds", bent)), False, bent)

    def test_bent_ledgers_of_counts(self):
        program = read(HOLDING)
        word, many = ledger_of(program)
        for bent in [many - 1, many + 1, 0, -1, -many, 10 ** 59, -10 ** 59, float(many), str(many), [many], (many,),
                     *STRANGE]:
            self.assertIs(is_ledger(program, (word, bent)), False, bent)
        one = read("boxes x\nhand")
        self.assertIs(is_ledger(one, ("holds", 1)), True)
        self.assertIs(is_ledger(one, ("holds", True)), False)
        self.assertIs(is_ledger(one, ("holds", 1.0)), False)

    def test_what_is_no_ledger(self):
        for text in (HOLDING, FAILING, AT_ONCE, "boxes x\nhand"):
            program = read(text)
            word, told = ledger_of(program)
            for thing in [[word, told], (word,), (word, told, told), (), (told, word), word, told, (told,), "", "holds",
                          ("hold", told), ("HOLDS", told), ("fails ", told), ("", told), (word + " ", told), ([word], told),
                          ((word,), told), (word, (word, told)), {word: told}, {"holds", "fails"}]:
                self.assertIs(is_ledger(program, thing), False, thing)
            for thing in STRANGE:
                self.assertIs(is_ledger(program, thing), False)
                self.assertIs(is_ledger(program, (thing, told)), False)
                self.assertIs(is_ledger(program, (word, thing)), False)
        other = {"holds": "fails", "fails": "holds"}
        for text in (HOLDING, FAILING):
            word, told = ledger_of(read(text))
            self.assertIs(is_ledger(read(text), (other[word], told)), False)

    def test_what_is_told_is_the_askers_own(self):
        program = read(FAILING)
        kept = copy.deepcopy(program)
        ledger = ledger_of(program=program)
        again = copy.deepcopy(ledger)
        ledger[1].clear()
        self.assertEqual(ledger_of(program), again)
        self.assertIs(is_run(program, again[1]), True)
        graph = failing(program=program)
        graph.lines().clear()
        self.assertEqual(failing(program), graph)
        thing = copy.deepcopy(again)
        self.assertIs(is_ledger(thing=thing, program=program), True)
        self.assertEqual((program, thing), (kept, again))


class ManyTest(unittest.TestCase):
    def test_more_graphs_than_are_gone_through(self):
        with self.assertRaises(TooMany) as caught:
            ledger_of(read(WRITING))
        self.assertEqual(caught.exception.many, 100000)

    def test_more_graphs_than_are_looked_through_for_the_least(self):
        big = (["x"], [[*ADDS[:3], ("claim", "r", "isnt", 9)]] * 4)
        with self.assertRaises(TooMany) as caught:
            failing(big)
        self.assertEqual(caught.exception.many, 100000)

    def test_fewer_graphs_are_all_looked_through(self):
        # There are 89375 graphs, and none but greatest ones fail: all shorter ones are looked through in vain.
        adds = [ADDS[0]] * 5
        program = (["x"], [[*adds, ("claim", "r", "isnt", 1)], adds[:4], adds[:3]])
        run = ledger_of(program)[1]
        self.assertEqual((len(run), run[-1]), (12, (0, 11)))

    def test_a_few_are_told_of_a_big_program_too(self):
        big = (["x"], [ADDS, ADDS, ADDS, ADDS])
        self.assertIs(is_ledger(big, ("holds", 3)), False)
        self.assertIs(is_ledger((["x"], [[*ADDS, ("claim", "r", "isnt", 3)]] * 3), ("holds", 3)), False)
        run = [(hand, place) for place, hand in enumerate([1, 1, 1, 1])]
        self.assertIs(is_ledger((["x"], [[*ADDS, ("claim", "r", "isnt", 3)]] * 3), ("fails", run)), True)

    def test_many_graphs(self):
        pairs = (["x"], [ADDS[:2] + [("claim", "r", "isnt", 0)]] * 3)
        self.assertEqual(ledger_of(pairs), ("holds", 90))
        last = (["x"], [ADDS[:2] + [("claim", "r", "isnt", 5)]] * 3)
        self.assertEqual(ledger_of(last)[0], "fails")
        self.assertEqual(len(failing(last)), 6)


if __name__ == "__main__":
    unittest.main()
