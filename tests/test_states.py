"""Promise 3.4, and what 0.2 and 1.2 say of it."""

import unittest

from readsfrom.errors import NoHand
from readsfrom.graphs import Graph
from readsfrom.programtexts import read
from readsfrom.replaying import is_drawing, state_of
from tests.things import MODES, PASSED, PASSED_LINES, PASSED_ROWS, STRANGE, refuses_programs


class StateTest(unittest.TestCase):
    def test_the_three_words(self):
        program = read("boxes x\nhand\nread r x loose\nclaim r is 0\nwrite x q plain\nhand\nwrite x 1 plain\nhand")
        wrote = [("write", "x", "plain", 1)]
        nought = ("read", "x", "loose", 0, None)
        one = ("read", "x", "loose", 1, (1, 0))
        for lines, hand, state in [
            ([[], [], []], 0, ("going", 0, [("q", 0), ("r", 0)])),
            ([[nought], [], []], 0, ("going", 2, [("q", 0), ("r", 0)])),
            ([[nought, ("write", "x", "plain", 0)], [], []], 0, ("through", 3, [("q", 0), ("r", 0)])),
            ([[one], wrote, []], 0, ("failed", 1, [("q", 0), ("r", 1)])),
            ([[], [], []], 1, ("going", 0, [])),
            ([[one], wrote, []], 1, ("through", 1, [])),
            ([[one], wrote, []], 2, ("through", 0, [])),
        ]:
            row = [(hand, at) for hand, line in enumerate(lines) for at, note in enumerate(line) if note[0] == "write"]
            graph = Graph(lines, [row])
            self.assertIs(is_drawing(program, graph), True)
            told = state_of(program, graph, hand)
            self.assertEqual(told, state)
            self.assertIs(type(told), tuple)
            self.assertIs(type(told[1]), int)
            self.assertIs(type(told[2]), list)

    def at_first(self, *rows):
        return state_of(read("\n".join(["boxes x", "hand", *rows])), Graph([[]], [[]]), 0)

    def test_skips_and_claims_at_first(self):
        self.assertEqual(self.at_first(), ("through", 0, []))
        self.assertEqual(self.at_first("claim r is 0"), ("through", 1, [("r", 0)]))
        self.assertEqual(self.at_first("claim r isnt 0"), ("failed", 0, [("r", 0)]))
        self.assertEqual(self.at_first("claim r is 1", "fence both"), ("failed", 0, [("r", 0)]))
        self.assertEqual(self.at_first("claim r isnt 1", "fence both"), ("going", 1, [("r", 0)]))
        self.assertEqual(self.at_first("skip r is 0 8"), ("through", 1, [("r", 0)]))
        self.assertEqual(self.at_first("skip r is 0 1", "fence both"), ("through", 2, [("r", 0)]))
        self.assertEqual(self.at_first("skip r is 0 3", "fence both"), ("through", 2, [("r", 0)]))
        self.assertEqual(self.at_first("skip r isnt 0 1", "fence both"), ("going", 1, [("r", 0)]))
        self.assertEqual(self.at_first("skip r isnt 1 1", "fence both", "fence both"), ("going", 2, [("r", 0)]))
        self.assertEqual(self.at_first("skip r is 0 1", "claim r is 1", "claim q is 2", "fence both"),
                         ("failed", 2, [("q", 0), ("r", 0)]))
        self.assertEqual(self.at_first("skip r is 0 2", "claim r is 1", "skip r is 0 8", "fence both"),
                         ("going", 3, [("r", 0)]))

    def test_registers(self):
        rows = ["read a x plain", "write x b plain", "change c x add d loose", "swap e x 0 f loose",
                "wait g x 0 plain", "grab h x 0 i loose", "skip j is 9 1", "claim k isnt 9"]
        self.assertEqual(self.at_first(*rows)[2], [(name, 0) for name in "abcdefghijk"])
        self.assertEqual(self.at_first("read z x plain", "write x a plain", "claim m is 0", "read a x plain")[2],
                         [("a", 0), ("m", 0), ("z", 0)])
        self.assertEqual(self.at_first("write x 1 plain", "fence both", "change r x put 5 loose")[2], [("r", 0)])

    def test_registers_have_what_was_read(self):
        program = read("boxes x\nhand\nread c x plain\nchange b x add 5 both\nswap a x 9 1 loose\ngrab d x 5 b both\n"
                       "wait e x 3 loose\nread c x plain\nhand\nwrite x 3 plain")
        notes = [("read", "x", "plain", 3, (1, 0)), ("change", "x", "both", 3, 8, (1, 0)),
                 ("read", "x", "loose", 8, (0, 1)), ("change", "x", "both", 5, 3, (0, 9)),
                 ("read", "x", "loose", 3, (1, 0)), ("read", "x", "plain", 0, None)]
        told = [state_of(program, Graph([notes[:many], []], [[]]), 0) for many in range(7)]
        self.assertEqual([number for _, number, _ in told], list(range(7)))
        self.assertEqual([word for word, _, _ in told], ["going"] * 6 + ["through"])
        self.assertEqual([[number for _, number in registers] for _, _, registers in told],
                         [[0, 0, 0, 0, 0], [0, 0, 3, 0, 0], [0, 3, 3, 0, 0], [8, 3, 3, 0, 0], [8, 3, 3, 5, 0],
                          [8, 3, 3, 5, 3], [8, 3, 0, 5, 3]])

    def test_no_hands(self):
        program = read(PASSED)
        graph = Graph(PASSED_LINES, PASSED_ROWS)
        for hand in [2, 3, -1, -2, 10 ** 59, -10 ** 59, "0", "", [], [0], (0,), (), *STRANGE]:
            with self.assertRaises(NoHand) as caught:
                state_of(program, graph, hand)
            self.assertIs(caught.exception.hand, hand)

    def test_no_programs(self):
        refuses_programs(self, lambda program: state_of(program, Graph([[]], [[]]), 0))
        refuses_programs(self, lambda program: state_of(program, None, None))

    def test_told_anew_and_nothing_changed(self):
        program, graph = read(PASSED), Graph(PASSED_LINES, PASSED_ROWS)
        told = state_of(hand=1, graph=graph, program=program)
        self.assertEqual(told, ("through", 3, [("s", 0)]))
        told[2].append(("t", 1))
        self.assertEqual(state_of(program, graph, 1), ("through", 3, [("s", 0)]))
        self.assertEqual((program, graph), (read(PASSED), Graph(PASSED_LINES, PASSED_ROWS)))

    def test_modes_do_not_matter(self):
        for mode in MODES["fence"]:
            program = read(f"boxes x\nhand\nfence {mode}\nfence {mode}")
            self.assertEqual(state_of(program, Graph([[("fence", mode)]], [[]]), 0), ("going", 1, []))


if __name__ == "__main__":
    unittest.main()
