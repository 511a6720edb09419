"""Promise 11.2, and what 0.2 and 1.2 say of it."""

import copy
import re
import unittest

from readsfrom.errors import NoText
from readsfrom.graphs import Graph
from readsfrom.graphtexts import read_graph, shown_graph
from readsfrom.machine import Machine
from readsfrom.programtexts import read
from readsfrom.replaying import is_drawing
from tests import oracle
from tests.small import small_programs
from tests.test_rules import SMALL
from tests.things import PASSED, PASSED_LINES, PASSED_ROWS, STRANGE, long_program, refuses_programs

PASSED_TEXT = """hand
read x loose 3 1.2
write y giving 3
hand
read y taking 0 start
fence both
change x both 0 3 start
row x 1.2
row y 0.1"""


def first_wrong(program, text):
    """The row that can't stand, how many there are where more must come, else None: told by patterns, a second time."""
    boxes, hands = program
    box = "(" + "|".join(boxes) + ")"
    call = "[" + "0123"[:len(hands)] + "][.][0-7]"
    source = f"(start|{call})"
    notes = [f"read {box} (plain|loose|taking) [0-9] {source}", f"write {box} (plain|loose|giving) [0-9]",
             f"change {box} (loose|giving|taking|both) [0-9] [0-9] {source}", "fence (giving|taking|both)"]
    sorts = ""
    rows = text.split("\n")
    ends = "abcd"[:len(boxes)]
    whole = f"(hn{{0,8}}){{{len(hands)}}}"
    for number, row in enumerate(rows):
        sorts += ("h" if row == "hand" else "n" if any(re.fullmatch(note, row) for note in notes) else "".join(
            end for end, name in zip(ends, boxes) if re.fullmatch(f"row {name}( {call})*", row)) or "?")
        begins = [f"(hn{{0,8}}){{0,{len(hands)}}}"] + [whole + ends[:many] for many in range(len(boxes) + 1)]
        if not any(re.fullmatch(begin, sorts) for begin in begins):
            return number
    return None if re.fullmatch(whole + ends, sorts) else len(rows)


class ShownTest(unittest.TestCase):
    def test_by_hand(self):
        program = read(PASSED)
        graph = Graph(PASSED_LINES, PASSED_ROWS)
        self.assertEqual(shown_graph(program, graph), PASSED_TEXT)
        self.assertEqual(read_graph(program, PASSED_TEXT), graph)
        nothing = Graph([[], []], [[], []])
        self.assertEqual(shown_graph(program, nothing), "hand\nhand\nrow x\nrow y")
        self.assertEqual(read_graph(program, "hand\nhand\nrow x\nrow y"), nothing)

    def test_all_drawings_of_small_programs(self):
        for text in SMALL:
            program = read(text)
            for lines, rows in oracle.drawings(program, oracle.numbers_of(program)):
                graph = Graph(lines, rows)
                told = shown_graph(program, graph)
                self.assertIsNone(first_wrong(program, told))
                self.assertEqual(read_graph(program, told), graph)

    def test_a_long_drawing(self):
        program = long_program()
        machine = Machine(program)
        while not machine.is_over():
            hand, where = machine.steps()[-1]
            machine.step(hand, where=where)
        self.assertEqual(len(machine), 10)
        told = shown_graph(program, machine.graph())
        self.assertEqual(told.split("\n")[:4], ["hand", "write a plain 9", "write b loose 0", "write ba giving 0"])
        self.assertEqual(told.split("\n")[-4:][:1], ["row a 0.0 0.6 0.7"])
        self.assertEqual(read_graph(program, told), machine.graph())

    def test_boxes_called_as_other_words(self):
        program = read("boxes hand read row start\nhand\nread r start plain\nwrite row 1 plain\nhand\nread s hand plain\n"
                       "write start 3 loose\nwrite read 2 plain\nwrite hand 0 giving")
        machine = Machine(program)
        machine.play([(1, 0), (1, 1), (1, 1), (1, 1), (0, 1), (0, 1)])
        told = shown_graph(program, machine.graph())
        self.assertEqual(told, "hand\nread start plain 3 1.1\nwrite row plain 1\nhand\nread hand plain 0 start\n"
                               "write start loose 3\nwrite read plain 2\nwrite hand giving 0\n"
                               "row hand 1.3\nrow read 1.2\nrow row 0.1\nrow start 1.1")
        self.assertEqual(read_graph(program, told), machine.graph())

    def test_no_programs(self):
        refuses_programs(self, lambda program: shown_graph(program, Graph([[]], [[]])))
        refuses_programs(self, lambda program: read_graph(program, "hand\nrow x"))
        refuses_programs(self, lambda program: read_graph(program, None))

    def test_what_is_told_is_the_askers_own(self):
        program = read(PASSED)
        kept = copy.deepcopy(program)
        graph = read_graph(text=PASSED_TEXT, program=program)
        graph.lines()[0].clear()
        self.assertEqual(shown_graph(graph=graph, program=program), PASSED_TEXT)
        self.assertEqual(program, kept)
        program[1][0].clear()
        self.assertEqual(graph, Graph(PASSED_LINES, PASSED_ROWS))


class NoTextTest(unittest.TestCase):
    def refuses(self, program, text, row):
        with self.assertRaises(NoText) as caught:
            read_graph(program, text)
        self.assertEqual(caught.exception.row, row, text)

    def test_no_texts(self):
        program = read(PASSED)
        for thing in [*STRANGE, 0, [], PASSED_TEXT.split("\n"), (PASSED_TEXT,), PASSED_TEXT.encode(),
                      Graph(PASSED_LINES, PASSED_ROWS), PASSED_LINES, {}]:
            self.refuses(program, thing, 0)

    def test_rows_that_can_not_stand(self):
        program = read(PASSED)
        rows = PASSED_TEXT.split("\n")
        for number, row in [
            (0, ""), (0, "hand "), (0, " hand"), (0, "Hand"), (0, "row x"), (0, "fence both"), (0, "boxes x y"),
            (1, ""), (1, "read x loose 3 0.8"), (1, "read x loose 3 2.0"), (1, "read x loose 3 1.10"), (1, "read x loose 3"),
            (1, "read x loose 3 12"), (1, "read x loose 3 1,2"), (1, "read x loose 3 1.2 "), (1, "read x loose 3  1.2"),
            (1, "read x loose 3 begin"), (1, "read x loose 3 None"), (1, "read x loose 10 1.2"), (1, "read x loose 03 1.2"),
            (1, "read x loose -3 1.2"), (1, "read x loose r 1.2"), (1, "read z loose 3 1.2"), (1, "read x giving 3 1.2"),
            (1, "read x both 3 1.2"), (1, "read loose x 3 1.2"), (1, "read x loose 1.2 3"), (1, "Read x loose 3 1.2"),
            (1, "read x loose 3 -.2"), (1, "read x loose 3 1.-"), (1, "read x loose 3 ."), (1, "read x loose 3 1."),
            (1, "read x loose 3 .2"), (1, "read x loose 3 1.2.3"), (1, "write x loose 3 1.2"), (1, "row x 1.2"), (1, "row x"),
            (2, "write y taking 3"), (2, "write y both 3"), (2, "write y giving"), (2, "write y giving 3 3"),
            (2, "write y giving start"), (2, "write giving 3"), (2, "skip r is 0 1"), (2, "claim r is 0"),
            (4, "wait y taking 0 start"), (4, "swap y taking 0 start"), (4, "read y taking 0 Start"), (5, "fence"),
            (5, "fence plain"), (5, "fence loose"), (5, "fence both both"), (5, "fence x both"), (6, "hand"),
            (6, "change x plain 0 3 start"), (6, "change x both 0 start"), (6, "change x both 0 3 3 start"),
            (6, "change x both 0 3"), (7, "hand"), (7, "row y 0.1"), (7, "row"), (7, "row x 1.2 "), (7, "row x  1.2"),
            (7, "row x start"), (7, "row x 1.8"), (7, "row x 2.0"), (7, "row X 1.2"), (7, "row z"), (7, "row  1.2"),
            (7, "row x 1.2,1.2"), (8, "row x 0.1"), (8, "row"), (8, "hand"), (8, "fence both"), (8, ""), (8, "row y 01"),
        ]:
            text = "\n".join([*rows[:number], row, *rows[number + 1:]])
            self.assertEqual(first_wrong(program, text), number, row)
            self.refuses(program, text, number)
            self.refuses(program, "\n".join([*rows[:number], row]), number)

    def test_more_must_come(self):
        program = read(PASSED)
        rows = PASSED_TEXT.split("\n")
        for many in range(1, len(rows)):
            self.refuses(program, "\n".join(rows[:many]), many)
        self.refuses(program, "", 0)
        self.refuses(program, "hand", 1)
        self.refuses(program, "hand\nhand\nrow x", 3)
        self.refuses(program, "hand\nhand", 2)
        self.refuses(program, "hand\n", 1)

    def test_behind_all_none(self):
        program = read(PASSED)
        for row in ("", "hand", "row x", "row y", "row z", "fence both", " "):
            self.refuses(program, PASSED_TEXT + "\n" + row, 9)

    def test_at_most_eight_notes_a_hand(self):
        program = (["x"], [[("fence", "both")] * 8, []])
        fences = ["hand"] + ["fence both"] * 8
        self.assertEqual(len(read_graph(program, "\n".join([*fences, "hand", "row x"]))), 8)
        self.refuses(program, "\n".join([*fences, "fence both", "hand", "row x"]), 9)
        self.refuses(program, "\n".join(["hand", *fences, "fence both", "row x"]), 10)
        self.refuses(program, "\n".join(["hand", *fences, "row x"]), None)
        self.refuses(program, "\n".join([*fences[:8], "fence taking", "hand", "row x"]), None)

    def test_hands_and_boxes_too_many_or_too_few(self):
        for text, row in [("hand\nrow a\nrow b", 1), ("hand\nhand\nhand\nrow a\nrow b", 2), ("hand\nhand\nrow a\nrow b", None),
                          ("hand\nhand\nrow a", 3), ("hand\nhand\nrow a\nrow b\nrow c", 4), ("hand\nhand\nrow b\nrow a", 2),
                          ("hand\nhand\nrow a\nrow a", 3), ("row a\nrow b", 0)]:
            program = read("boxes a b\nhand\nfence both\nhand")
            if row is None:
                self.assertEqual(read_graph(program, text), Graph([[], []], [[], []]))
            else:
                self.refuses(program, text, row)

    def test_all_rows_well_formed_but_no_drawing(self):
        program = read(PASSED)
        for old, new in [
            ("loose 3 1.2", "loose 4 1.2"), ("loose 3 1.2", "loose 3 start"), ("loose 3 1.2", "loose 3 1.3"),
            ("loose 3 1.2", "loose 3 1.1"), ("loose 3 1.2", "plain 3 1.2"), ("read x loose", "read y loose"),
            ("giving 3", "giving 2"), ("row x 1.2", "row x"), ("row x 1.2", "row x 1.2 1.2"), ("row x 1.2", "row x 0.1"),
            ("row y 0.1", "row y 0.7"), ("row y 0.1", "row y 1.2"), ("fence both", "fence giving"), ("both 0 3", "both 1 4"),
            ("\nfence both", ""), ("fence both\nchange x both 0 3 start", "change x both 0 3 start\nfence both"),
        ]:
            text = PASSED_TEXT.replace(old, new)
            self.assertNotEqual(text, PASSED_TEXT)
            self.assertIsNone(first_wrong(program, text))
            self.refuses(program, text, None)

    def test_bent_texts(self):
        told = {"row": 0, "more": 0, "none": 0, "drawing": 0}
        for program in [read(PASSED), *small_programs()[:60]]:
            machine = Machine(program)
            while not machine.is_over():
                hand, where = machine.steps()[-1]
                machine.step(hand, where=where)
            text = shown_graph(program, machine.graph())
            for bent in bent_texts(text):
                wrong = first_wrong(program, bent)
                try:
                    graph = read_graph(program, bent)
                    told["drawing"] += 1
                    self.assertIsNone(wrong)
                    self.assertIs(is_drawing(program, graph), True)
                    self.assertEqual(shown_graph(program, graph), bent)
                except NoText as refusal:
                    self.assertEqual(refusal.row, wrong, bent)
                    told["none" if wrong is None else "more" if wrong == bent.count("\n") + 1 else "row"] += 1
        self.assertGreater(min(told.values()), 20)


def bent_texts(text):
    """The text with each row, each word and each sign left out, twice, exchanged or cut off."""
    rows = text.split("\n")
    told = [text[:many] for many in range(len(text))]
    for at, row in enumerate(rows):
        others = [[], [row, row], [row, "hand"], [row + " "], [""]]
        words = row.split(" ")
        for place, word in enumerate(words):
            others += [[" ".join(words[:place] + more + words[place + 1:])] for more in ([], [word, word], ["0"], ["x"])]
            others.append([" ".join(words[:place] + words[place:][::-1])])
        told += ["\n".join(rows[:at] + other + rows[at + 1:]) for other in others]
        told += ["\n".join(rows[:at] + rows[at + 1:number] + [row] + rows[number:]) for number in range(at + 1, len(rows))]
    for at in range(len(text)):
        told += [text[:at] + sign + text[at + more:] for sign in ("", "0", "7", " ", "\n", "x") for more in (0, 1)]
    return told


if __name__ == "__main__":
    unittest.main()
