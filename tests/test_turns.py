"""Promise 8.1, and what 0.2, 0.4 and 1.2 say of it."""

import copy
import unittest

from readsfrom.errors import TooMany
from readsfrom.goer import Goer
from readsfrom.outcomes import outcome_of
from readsfrom.programtexts import read
from readsfrom.turns import outcomes, turn_outcomes
from tests import grown
from tests.small import (
    ADDING, ALL_ADDING, CROSSWISE, CROSSWISE_APART, KEPT_OUT, PLAIN, READ_AND_WRITTEN, SENT, SENT_BY_FENCES, TWO_LOOKS,
    WAITING_IN_VAIN, WAITING_TOO_LATE, WRITING, small_programs,
)
from tests.things import refuses_programs


def registers_in(told):
    """The registers' numbers of each outcome, hand by hand, without their names."""
    return [[[number for _, number in hand] for hand in registers] for _, registers, _ in told]


class OutcomesTest(unittest.TestCase):
    def test_of_all_ended_graphs(self):
        for program in small_programs():
            _, ended = grown.all_grown(program)
            self.assertEqual(outcomes(program), grown.unlike([grown.outcome(program, *graph) for graph in ended]))

    def test_of_all_that_a_goer_tells(self):
        program = read(KEPT_OUT.format("loose", "loose"))
        goer = Goer(program)
        told = []
        graph = goer.go()
        while graph is not None:
            told.append(outcome_of(program, graph))
            graph = goer.go()
        self.assertEqual(outcomes(program), grown.unlike(told))

    def test_of_all_runs_that_take_turns(self):
        for program in small_programs():
            _, ended = grown.all_turned(program)
            told = grown.unlike([grown.outcome(program, *graph) for graph in ended.values()])
            self.assertEqual(turn_outcomes(program), told, program)

    def test_kinds(self):
        told = outcomes(read("boxes x y\nhand\nread s x plain\nread r y plain\nhand"))
        self.assertEqual(told, [(["through", "through"], [[("r", 0), ("s", 0)], []], [0, 0])])
        self.assertEqual(turn_outcomes(read("boxes x y\nhand\nread s x plain\nread r y plain\nhand")), told)
        for outcome in told:
            self.assertEqual([type(part) for part in (outcome, *outcome)], [tuple, list, list, list])

    def test_programs_without_notes(self):
        for text, words, registers in [
            ("boxes x\nhand", ["through"], [[]]),
            ("boxes x\nhand\nskip r is 0 1\nclaim r is 1", ["through"], [[("r", 0)]]),
            ("boxes x\nhand\nclaim r is 1\nhand\nwait q x 3 plain", ["failed", "stuck"], [[("r", 0)], [("q", 0)]]),
        ]:
            for call in (outcomes, turn_outcomes):
                self.assertEqual(call(read(text)), [(words, registers, [0])])

    def test_what_is_told_is_the_askers_own(self):
        program = read(CROSSWISE.format("plain", "plain"))
        kept = copy.deepcopy(program)
        for call in (outcomes, turn_outcomes):
            told = call(program)
            again = copy.deepcopy(told)
            words, registers, numbers = told[0]
            for part in (words, registers[0], registers, numbers, told):
                part.clear()
            self.assertEqual(call(program), again)
            self.assertEqual(call(program=program), again)
        self.assertEqual(program, kept)

    def test_no_programs(self):
        refuses_programs(self, outcomes)
        refuses_programs(self, turn_outcomes)


class KnownTest(unittest.TestCase):
    def test_hands_that_write_and_look_crosswise(self):
        both = [[[0], [0]], [[0], [1]], [[1], [0]], [[1], [1]]]
        for modes in (("plain", "plain"), ("loose", "loose"), ("giving", "taking")):
            program = read(CROSSWISE.format(*modes))
            self.assertEqual(registers_in(outcomes(program)), both)
            self.assertEqual(registers_in(turn_outcomes(program)), both[1:])

    def test_hands_that_are_kept_apart(self):
        def looks(told):
            return sorted({tuple(dict(hand)["r"] for hand in registers) for _, registers, _ in told})

        for mode, seen in [("both", False), ("loose", True), ("giving", True), ("taking", True)]:
            program = read(CROSSWISE_APART.format(mode))
            self.assertEqual((0, 0) in looks(outcomes(program)), seen, mode)
            self.assertEqual(looks(turn_outcomes(program)), [(0, 1), (1, 0), (1, 1)])
            self.assertEqual(outcomes(program) == turn_outcomes(program), not seen)

    def test_a_word_sent_by_a_mark(self):
        for form, strong, weak in [
            (SENT, [("giving", "taking")], [("plain", "taking"), ("giving", "loose"), ("loose", "loose")]),
            (SENT_BY_FENCES, [("giving", "taking"), ("both", "both")], [("taking", "taking"), ("giving", "giving")]),
        ]:
            for modes in strong + weak:
                program = read(form.format(*modes))
                marks = [registers[1] for _, registers, _ in outcomes(program)]
                self.assertEqual([("m", 1), ("w", 0)] in marks, modes in weak)
                self.assertEqual([[("m", 0), ("w", 0)] in marks, [("m", 1), ("w", 5)] in marks], [True, True])
                marks = [registers[1] for _, registers, _ in turn_outcomes(program)]
                self.assertEqual([("m", 1), ("w", 0)] in marks, False)

    def test_two_looks_at_one_box(self):
        for modes in (("plain", "plain"), ("giving", "taking")):
            program = read(TWO_LOOKS.format(*modes))
            self.assertEqual(registers_in(outcomes(program)), [[[], [0, 0]], [[], [0, 1]], [[], [1, 1]]])
            self.assertEqual(turn_outcomes(program), outcomes(program))

    def test_hands_that_add(self):
        for mode in ("loose", "both"):
            told = outcomes(read(ADDING.format(mode)))
            self.assertEqual(registers_in(told), [[[0], [1]], [[1], [0]]])
            self.assertEqual([numbers for _, _, numbers in told], [[2], [2]])
        told = registers_in(outcomes(read(READ_AND_WRITTEN.format("giving", "taking"))))
        self.assertEqual(told, [[[0], [0]], [[0], [1]], [[1], [0]]])

    def test_a_wait_that_none_frees(self):
        told = outcomes(read(WAITING_IN_VAIN))
        self.assertEqual(told, turn_outcomes(read(WAITING_IN_VAIN)))
        self.assertEqual(told, [(["stuck", "through"], [[("r", 0)], [("r", 0)]], [2])])

    def test_a_wait_that_a_run_taking_turns_can_not_free(self):
        program = read(WAITING_TOO_LATE)
        self.assertEqual(outcomes(program), [(["through", "through"], [[], [("r", 1)]], [2])])
        self.assertEqual(turn_outcomes(program), [
            (["through", "stuck"], [[], [("r", 0)]], [2]), (["through", "through"], [[], [("r", 1)]], [2])])
        program = read("boxes x\nhand\nwrite x 1 plain\ngrab r x 0 2 both\nhand\nchange r x put 3 both")
        for call in (outcomes, turn_outcomes):
            self.assertEqual({words[0] for words, _, _ in call(program)}, {"stuck"})


class ManyTest(unittest.TestCase):
    def test_more_graphs_than_are_gone_through(self):
        for call, text in [(outcomes, WRITING), (turn_outcomes, ALL_ADDING)]:
            with self.assertRaises(TooMany) as caught:
                call(read(text))
            self.assertEqual(caught.exception.many, 100000)

    def test_many_runs_that_end_alike(self):
        self.assertEqual(turn_outcomes(read(WRITING)), [(["through"] * 4, [[]] * 4, [1])])
        program = (["w", "x", "y", "z"], [[("write", box, 1, "plain")] * 4 for box in "wxyz"])
        self.assertEqual(outcomes(program), [(["through"] * 4, [[]] * 4, [1] * 4)])
        self.assertEqual(turn_outcomes(program), outcomes(program))

    def test_programs_of_all_sorts_of_numbers(self):
        for text in PLAIN:
            told = outcomes(read(text))
            self.assertEqual(told, sorted(told))


if __name__ == "__main__":
    unittest.main()
