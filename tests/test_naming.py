"""Promise 11.1, and what 0.2, 0.4 and 1.2 say of it."""

import copy
import unittest
from itertools import permutations

from readsfrom.claims import ledger_of
from readsfrom.clashes import clash_of
from readsfrom.errors import NoNames
from readsfrom.goer import Goer, count_of
from readsfrom.graphs import Graph
from readsfrom.naming import alike_hands, called, led
from readsfrom.outcomes import outcome_of
from readsfrom.programs import look_at
from readsfrom.programtexts import read, shown
from readsfrom.replaying import is_drawing
from readsfrom.rules import breach
from readsfrom.turns import outcomes, turn_outcomes
from tests import grown, oracle
from tests.small import SENT, small_programs
from tests.test_rules import SMALL
from tests.things import PASSED, PASSED_LINES, PASSED_ROWS, STRANGE, long_program, refuses_programs


def names_for(boxes):
    """Names for the boxes: the same, turned about, others that rise or don't."""
    told = [None, list(boxes), list(boxes)[::-1], ["d", "c", "b", "a"][:len(boxes)], ["x", "a", "zz", "m"][:len(boxes)]]
    return told + [["start", "hand", "row", "write"][:len(boxes)]]


def back_of(program, hands, boxes):
    """The names that lead what is called so back."""
    olds, lines = program
    hands = list(range(len(lines))) if hands is None else hands
    boxes = olds if boxes is None else boxes
    return {"hands": [hands.index(hand) for hand in range(len(hands))],
            "boxes": [olds[boxes.index(box)] for box in sorted(boxes)]}


class CalledTest(unittest.TestCase):
    def test_by_hand(self):
        program = read("boxes x y\nhand\nwrite x r plain\nfence both\nhand\nread x y loose\nskip x is 0 1\nclaim x is 0")
        told = called(program, hands=[1, 0], boxes=["y", "x"])
        self.assertEqual(told, read("boxes x y\nhand\nread x x loose\nskip x is 0 1\nclaim x is 0\nhand\nwrite y r plain\n"
                                    "fence both"))
        self.assertEqual(called(program, boxes=["zz", "a"]), read(
            "boxes a zz\nhand\nwrite zz r plain\nfence both\nhand\nread x a loose\nskip x is 0 1\nclaim x is 0"))
        self.assertEqual(called(program, hands=[1, 0]), (program[0], program[1][::-1]))
        self.assertEqual(called(program), program)

    def test_hand_h_is_the_one_of_the_number_that_stands_there(self):
        program = (["x"], [[("write", "x", number, "plain")] for number in range(4)])
        told = called(program, hands=[2, 0, 3, 1])
        self.assertEqual([deeds[0][2] for deeds in told[1]], [1, 3, 0, 2])
        for hands in permutations(range(4)):
            told = called(program, hands=list(hands))
            self.assertEqual([told[1][hands[hand]] for hand in range(4)], program[1])

    def test_all_sorts_of_deeds(self):
        program = long_program()
        names = ["m", "zz", "a", "b"]
        told = called(program, boxes=names)
        self.assertIsNone(look_at(told))
        self.assertEqual(told[0], ["a", "b", "m", "zz"])
        words = {"a": "m", "b": "zz", "ba": "a", "zzzzzz": "b"}
        for old, new in zip(sum(program[1], []), sum(told[1], [])):
            place = {"write": 1, "fence": None, "skip": None, "claim": None}.get(old[0], 2)
            if place is not None:
                old = old[:place] + (words[old[place]],) + old[place + 1:]
            self.assertEqual(new, old)

    def test_back_again(self):
        for program in [long_program(), *small_programs()[:80]]:
            for hands in [None, *permutations(range(len(program[1])))]:
                hands = None if hands is None else list(hands)
                for boxes in names_for(program[0]):
                    told = called(program, hands=hands, boxes=boxes)
                    self.assertIsNone(look_at(told))
                    self.assertEqual(called(told, **back_of(program, hands, boxes)), program)

    def test_all_tells_alike(self):
        for program in small_programs()[:150]:
            hands = list(range(len(program[1])))[::-1]
            told = called(program, hands=hands, boxes=names_for(program[0])[4])
            self.assertEqual(count_of(told), count_of(program))
            self.assertEqual(len(outcomes(told)), len(outcomes(program)))
            self.assertEqual(len(turn_outcomes(told)), len(turn_outcomes(program)))
            self.assertEqual(clash_of(told) is None, clash_of(program) is None)
            one, other = ledger_of(told), ledger_of(program)
            self.assertEqual((one[0], one[1] if one[0] == "holds" else len(one[1])),
                             (other[0], other[1] if other[0] == "holds" else len(other[1])))

    def test_no_programs(self):
        refuses_programs(self, called)
        refuses_programs(self, lambda program: called(program, hands=None, boxes=()))
        refuses_programs(self, lambda program: led(program, Graph([[]], [[]])))
        refuses_programs(self, lambda program: led(program, None, hands="x", boxes="x"))
        refuses_programs(self, alike_hands)


class NoNamesTest(unittest.TestCase):
    def refuses(self, program, which, **names):
        graph = Graph([[] for _ in program[1]], [[] for _ in program[0]])
        for call in (lambda: called(program, **names), lambda: led(program, graph, **names)):
            with self.assertRaises(NoNames) as caught:
                call()
            self.assertEqual(caught.exception.which, which, names)

    def test_hands(self):
        program = read("boxes x y\nhand\nhand\nhand")
        for thing in [[], [0], [0, 1], [0, 1, 2, 3], [0, 0, 1], [0, 1, 1], [1, 2, 3], [0, 1, -1], (0, 1, 2), "012",
                      ["0", "1", "2"], [0, True, 2], [False, 1, 2], [0, 1.0, 2], [0, 1, None], [[0], [1], [2]], {0: 1},
                      [(0, 0), (0, 1), (0, 2)], 0, [3, 2, 1], range(3)]:
            self.refuses(program, "hands", hands=thing)
        for thing in STRANGE:
            if thing is not None:
                self.refuses(program, "hands", hands=thing)
            self.refuses(program, "hands", hands=[0, 1, thing])

    def test_boxes(self):
        program = read("boxes x y\nhand\nhand")
        for thing in [[], ["x"], ["x", "y", "z"], ["x", "x"], ("x", "y"), "xy", ["x", "Y"], ["x", ""], ["x", "abcdefg"],
                      ["x", "y "], ["x", "y1"], ["x", b"y"], [0, 1], ["x", None], [["x"], ["y"]], {"x": "y", "y": "x"},
                      [("x",), ("y",)], 2, {"x", "y"}]:
            self.refuses(program, "boxes", boxes=thing)
        for thing in STRANGE:
            if thing is not None:
                self.refuses(program, "boxes", boxes=thing)
            self.refuses(program, "boxes", boxes=["x", thing])

    def test_hands_first(self):
        program = read("boxes x y\nhand\nhand")
        self.refuses(program, "hands", hands=[0], boxes=["x"])
        self.refuses(program, "hands", boxes="", hands="")
        self.refuses(program, "boxes", hands=[1, 0], boxes=["x"])
        self.refuses(program, "hands", hands=[1, 1], boxes=["y", "x"])


class LedTest(unittest.TestCase):
    def test_by_hand(self):
        program = read(PASSED)
        graph = Graph(PASSED_LINES, PASSED_ROWS)
        told = led(program, graph, hands=[1, 0], boxes=["b", "a"])
        self.assertEqual(told, Graph(
            [[("read", "a", "taking", 0, None), ("fence", "both"), ("change", "b", "both", 0, 3, None)],
             [("read", "b", "loose", 3, (0, 2)), ("write", "a", "giving", 3)]], [[(1, 1)], [(0, 2)]]))
        self.assertEqual(led(program, graph), graph)
        self.assertEqual(led(program, graph, boxes=["b", "a"]).rows(), PASSED_ROWS[::-1])
        self.assertEqual(led(program, graph, boxes=["a", "b"]).rows(), PASSED_ROWS)

    def test_all_drawings(self):
        rules = {}
        for text in SMALL:
            program = read(text)
            orders = [list(hands) for hands in permutations(range(len(program[1])))]
            names = names_for(program[0])
            for number, (lines, rows) in enumerate(oracle.drawings(program, oracle.numbers_of(program))):
                graph = Graph(lines, rows)
                hands, boxes = orders[number % len(orders)], names[number % len(names)]
                told = led(program, graph, hands=hands, boxes=boxes)
                other = called(program, hands=hands, boxes=boxes)
                self.assertIs(is_drawing(other, told), True)
                self.assertEqual(breach(other, told), breach(program, graph))
                self.assertEqual(led(other, told, **back_of(program, hands, boxes)), graph)
                rules[breach(other, told)] = True
        self.assertEqual(sorted(rules, key=str), sorted([None, "parted", "ring", "stale"], key=str))

    def test_ended_graphs_are_just_those_of_the_other_program(self):
        for program in small_programs()[:120]:
            graphs = [Graph(*one) for one in grown.all_grown(program)[1]]
            for hands in permutations(range(len(program[1]))):
                names = {"hands": list(hands), "boxes": names_for(program[0])[3]}
                other = called(program, **names)
                ended = [Graph(*one) for one in grown.all_grown(other)[1]]
                self.assertEqual(sorted(repr(led(program, graph, **names)) for graph in graphs), sorted(map(repr, ended)))

    def test_outcomes_are_led_likewise(self):
        for program in small_programs()[:150]:
            hands, boxes = list(range(len(program[1])))[::-1], names_for(program[0])[3]
            other = called(program, hands=hands, boxes=boxes)
            goer = Goer(program)
            graph = goer.go()
            while graph is not None:
                words, registers, numbers = outcome_of(program, graph)
                self.assertEqual(outcome_of(other, led(program, graph, hands=hands, boxes=boxes)),
                                 (words[::-1], registers[::-1], numbers[::-1]))
                graph = goer.go()

    def test_nothing_handed_in_is_changed_or_kept(self):
        program = read(PASSED)
        graph = Graph(PASSED_LINES, PASSED_ROWS)
        kept, shown_graph = copy.deepcopy(program), repr(graph)
        hands, boxes = [1, 0], ["b", "a"]
        other = called(boxes=boxes, hands=hands, program=program)
        told = led(graph=graph, boxes=boxes, hands=hands, program=program)
        text = shown(other)
        again = repr(told)
        self.assertEqual((program, repr(graph), hands, boxes), (kept, shown_graph, [1, 0], ["b", "a"]))
        hands.clear()
        boxes.append("c")
        program[1][0].clear()
        program[0].clear()
        told.lines()[0].clear()
        self.assertEqual((shown(other), repr(told)), (text, again))
        program = copy.deepcopy(kept)
        same = called(program)
        same[0].append("z")
        same[1][0].clear()
        same[1].clear()
        self.assertEqual(program, kept)
        for names in ((program, [1, 0], ["b", "a"]), (program, [1, 0])):
            with self.assertRaises(TypeError):
                called(*names)


class AlikeTest(unittest.TestCase):
    def test_lists(self):
        one, two, none = "hand\nread r x plain", "hand\nread r x loose", "hand"
        for rows, lists in [
            ([one], [[0]]), ([one, two], [[0], [1]]), ([one, one], [[0, 1]]), ([one, two, one], [[0, 2], [1]]),
            ([two, one, one], [[0], [1, 2]]), ([none, none, one], [[0, 1], [2]]), ([one, one, one], [[0, 1, 2]]),
            ([none] * 4, [[0, 1, 2, 3]]), ([one] * 4, [[0, 1, 2, 3]]), ([one, two, one, two], [[0, 2], [1, 3]]),
            ([one, two, two, one], [[0, 3], [1, 2]]), ([one, one, two, two], [[0, 1], [2, 3]]),
            ([one, two, none, one], [[0, 3], [1], [2]]), ([one, two, none, two], [[0], [1, 3], [2]]),
            ([one, "hand\nread s x plain"], [[0], [1]]), ([one, one + "\nfence both"], [[0], [1]]),
        ]:
            program = read("\n".join(["boxes x", *rows]))
            self.assertEqual(alike_hands(program), lists)
            alike_hands(program)[0].clear()
            self.assertEqual(alike_hands(program=program), lists)

    def test_of_a_known_program(self):
        self.assertEqual(alike_hands(read(SENT.format("plain", "plain"))), [[0], [1]])


if __name__ == "__main__":
    unittest.main()
