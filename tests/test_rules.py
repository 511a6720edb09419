"""Promise 4.2, and what 0.2 and 1.2 say of it."""

import copy
import unittest

from readsfrom.graphs import Graph
from readsfrom.order import before
from readsfrom.programtexts import read
from readsfrom.replaying import is_drawing
from readsfrom.rules import breach, is_graph
from tests import oracle
from tests.things import STRANGE, put, refuses_programs

A, B, C, D, E, F = (0, 0), (0, 1), (0, 2), (1, 0), (1, 1), (1, 2)

# Programs all drawings of which are gone through.
SMALL = [
    "boxes x\nhand",
    "boxes x\nhand\nwrite x 1 plain\nwrite x 2 plain\nread r x plain",
    "boxes x\nhand\nread r x plain\nwrite x 1 plain\nhand\nread s x plain\nwrite x 1 plain",
    "boxes x y\nhand\nwrite x 1 plain\nwrite y 1 giving\nhand\nread r y taking\nread s x plain",
    "boxes x y\nhand\nwrite x 1 plain\nfence giving\nwrite y 1 loose\nhand\nread r y loose\nfence taking\n"
    "read s x plain",
    "boxes x y\nhand\nread r x taking\nwrite y 1 giving\nhand\nread s y taking\nwrite x 1 giving",
    "boxes x\nhand\nchange r x add 1 both\nhand\nchange r x add 1 both\nhand\nread r x plain",
    "boxes x\nhand\nchange r x put 0 loose\nchange r x put 0 loose\nhand\nwrite x 0 plain",
    "boxes x\nhand\nswap r x 0 1 both\nhand\nswap r x 0 1 both\nhand\ngrab s x 1 0 loose",
    "boxes x y\nhand\nwrite y 1 plain\nwrite x 1 giving\nhand\nchange r x add 1 loose\nhand\nwait r x 2 taking\n"
    "read s y plain",
    "boxes x y\nhand\nread r x loose\nwrite y 0 loose\nhand\nread r y loose\nwrite x 0 loose",
    "boxes x\nhand\nwrite x 1 loose\nread r x loose\nclaim r is 1\nwrite x 2 plain\nhand\nwrite x 3 plain",
]


class BreachTest(unittest.TestCase):
    def breaks(self, rule, text, lines, *rows):
        program, graph = read(text), Graph(lines, list(rows))
        self.assertIs(is_drawing(program, graph), True)
        self.assertEqual(breach(program, graph), rule, (lines, rows))
        self.assertIs(is_graph(program, graph), rule is None)
        self.assertEqual(oracle.broken(lines, list(rows))[:1], [] if rule is None else [rule])
        return oracle.broken(lines, list(rows))

    def test_none(self):
        self.breaks(None, "boxes x\nhand", [[]], [])
        self.breaks(None, "boxes x y\nhand\nhand", [[], []], [], [])
        text = "boxes x y\nhand\nwrite x 1 plain\nread r y plain\nhand\nchange r x add 2 both\nfence both"
        self.breaks(None, text, [[], []], [], [])
        lines = [[("write", "x", "plain", 1), ("read", "y", "plain", 0, None)],
                 [("change", "x", "both", 1, 3, A), ("fence", "both")]]
        self.breaks(None, text, lines, [A, D], [])

    def test_ring_alone(self):
        text = "boxes x y\nhand\nread r x loose\nwrite y 0 loose\nhand\nread r y loose\nwrite x 0 loose"
        lines = [[("read", "x", "loose", 0, E), ("write", "y", "loose", 0)],
                 [("read", "y", "loose", 0, B), ("write", "x", "loose", 0)]]
        self.assertEqual(self.breaks("ring", text, lines, [E], [B]), ["ring"])
        self.breaks(None, text, [[put(lines[0][0], 4, None), lines[0][1]], lines[1]], [E], [B])

    def test_rings_of_one_line_of_one_note_and_of_changes(self):
        text = "boxes x\nhand\nread r x plain\nwrite x 0 plain"
        self.breaks("ring", text, [[("read", "x", "plain", 0, B), ("write", "x", "plain", 0)]], [B])
        text = "boxes x\nhand\nchange r x put 0 loose\nhand\nchange r x put 0 loose"
        self.breaks("ring", text, [[("change", "x", "loose", 0, 0, A)], []], [A])
        one, two = ("change", "x", "loose", 0, 0, D), ("change", "x", "loose", 0, 0, A)
        self.assertEqual(self.breaks("ring", text, [[one], [two]], [A, D]), ["ring", "parted"])

    def test_parted_alone(self):
        text = "boxes x\nhand\nwrite x 0 plain\nhand\nchange r x add 1 loose"
        line, change = [("write", "x", "plain", 0)], ("change", "x", "loose", 0, 1, None)
        self.breaks(None, text, [line, [change]], [D, A])
        self.assertEqual(self.breaks("parted", text, [line, [change]], [A, D]), ["parted"])
        change = put(change, 5, A)
        self.breaks(None, text, [line, [change]], [A, D])
        self.assertEqual(self.breaks("parted", text, [line, [change]], [D, A]), ["parted"])

    def test_parted_by_another_change(self):
        text = "boxes x\nhand\nchange r x add 1 both\nhand\nchange r x add 1 both\nhand\nwrite x 5 plain"
        one = ("change", "x", "both", 0, 1, None)
        self.assertEqual(self.breaks("parted", text, [[one], [one], []], [A, D]), ["parted"])
        self.assertEqual(self.breaks("parted", text, [[one], [one], []], [D, A]), ["parted"])
        other = ("change", "x", "both", 1, 2, A)
        self.breaks(None, text, [[one], [other], []], [A, D])
        lines = [[one], [other], [("write", "x", "plain", 5)]]
        self.breaks(None, text, lines, [A, D, (2, 0)])
        self.assertEqual(self.breaks("parted", text, lines, [A, (2, 0), D]), ["parted"])
        self.assertEqual(self.breaks("parted", text, lines, [(2, 0), A, D]), ["parted"])

    def test_stale_alone(self):
        text = "boxes x\nhand\nwrite x 1 plain\nread r x plain\nhand\nwrite x 2 plain"
        write, other = ("write", "x", "plain", 1), ("write", "x", "plain", 2)
        for source, row, rule in [
            (A, [A, D], None), (A, [D, A], None), (D, [A, D], None), (D, [D, A], "stale"),
            (None, [A, D], "stale"), (None, [D, A], "stale"),
        ]:
            number = {A: 1, D: 2, None: 0}[source]
            lines = [[write, ("read", "x", "plain", number, source)], [other]]
            self.assertEqual(self.breaks(rule, text, lines, row), [rule] if rule else [])

    def test_of_two_that_write_the_second_stands_behind(self):
        text = "boxes x\nhand\nwrite x 1 plain\nwrite x 1 plain\nhand\nwrite x 1 plain"
        line = [("write", "x", "plain", 1)] * 2
        self.breaks(None, text, [line, line[:1]], [A, B, D])
        self.breaks(None, text, [line, line[:1]], [A, D, B])
        self.breaks(None, text, [line, line[:1]], [D, A, B])
        self.breaks("stale", text, [line, line[:1]], [B, A, D])
        self.breaks("stale", text, [line, line[:1]], [D, B, A])

    def test_of_two_that_read_the_second_reads_there_or_behind(self):
        text = "boxes x\nhand\nread r x plain\nread r x plain\nhand\nwrite x 0 plain\nwrite x 0 plain"
        line = [("write", "x", "plain", 0)] * 2
        for one, other, rule in [
            (None, None, None), (D, D, None), (E, E, None), (None, D, None), (D, E, None), (None, E, None),
            (D, None, "stale"), (E, None, "stale"), (E, D, "stale"),
        ]:
            self.breaks(rule, text, [[("read", "x", "plain", 0, one), ("read", "x", "plain", 0, other)], line], [D, E])

    def test_what_writes_behind_a_read_stands_behind_it(self):
        text = "boxes x\nhand\nread r x plain\nwrite x 0 plain\nhand\nwrite x 0 plain"
        other = [("write", "x", "plain", 0)]
        for source, row, rule in [(None, [B, D], None), (None, [D, B], None), (D, [D, B], None), (D, [B, D], "stale")]:
            lines = [[("read", "x", "plain", 0, source), ("write", "x", "plain", 0)], other]
            self.breaks(rule, text, lines, row)

    def test_changes_have_two_places(self):
        text = "boxes x\nhand\nchange r x put 0 loose\nread r x plain\nhand\nwrite x 0 plain"
        other = [("write", "x", "plain", 0)]
        for source, read_of, row, rule in [
            (None, A, [A, D], None), (None, None, [A, D], "stale"), (None, D, [A, D], None),
            (D, A, [D, A], None), (D, D, [D, A], "stale"), (D, None, [D, A], "stale"),
        ]:
            lines = [[("change", "x", "loose", 0, 0, source), ("read", "x", "plain", 0, read_of)], other]
            self.assertEqual(self.breaks(rule, text, lines, row), [rule] if rule else [])
        text = "boxes x\nhand\nread r x plain\nchange r x put 0 loose\nhand\nwrite x 0 plain"
        for read_of, source, row, rule in [
            (None, None, [B, D], None), (None, D, [D, B], None), (D, D, [D, B], None), (D, None, [B, D], "stale"),
        ]:
            lines = [[("read", "x", "plain", 0, read_of), ("change", "x", "loose", 0, 0, source)], other]
            self.assertEqual(self.breaks(rule, text, lines, row), [rule] if rule else [])

    def test_stale_by_each_kind_of_meeting(self):
        for ahead, mode, other, behind, rule in [
            ("", "giving", "taking", "", "stale"), ("", "plain", "taking", "", None), ("", "giving", "loose", "", None),
            ("fence giving\n", "plain", "taking", "", "stale"), ("", "giving", "plain", "fence taking\n", "stale"),
            ("fence both\n", "loose", "loose", "fence both\n", "stale"), ("fence both\n", "loose", "loose", "", None),
            ("fence taking\n", "loose", "taking", "", None), ("", "giving", "loose", "fence giving\n", None),
        ]:
            text = (f"boxes x y\nhand\nwrite x 1 plain\n{ahead}write y 1 {mode}\nhand\nread r y {other}\n{behind}"
                    "read s x plain")
            first = [("fence", ahead.split()[1])] if ahead else []
            last = [("fence", behind.split()[1])] if behind else []
            lines = [[("write", "x", "plain", 1), *first, ("write", "y", mode, 1)],
                     [("read", "y", other, 1, (0, 1 + len(first))), *last, ("read", "x", "plain", 0, None)]]
            self.breaks(rule, text, lines, [A], [(0, 1 + len(first))])
            lines[1][-1] = ("read", "x", "plain", 1, A)
            self.breaks(None, text, lines, [A], [(0, 1 + len(first))])
            text = text.replace("read s x plain", "write x 2 plain")
            lines[1][-1] = ("write", "x", "plain", 2)
            call = (1, len(lines[1]) - 1)
            self.breaks(rule, text, lines, [call, A], [(0, 1 + len(first))])
            self.breaks(None, text, lines, [A, call], [(0, 1 + len(first))])

    def test_only_notes_of_one_box(self):
        text = "boxes x y\nhand\nwrite x 1 plain\nwrite x 1 plain\nread r y plain\nwrite y 1 plain\nread s x plain"
        line = [("write", "x", "plain", 1), ("write", "x", "plain", 1), ("read", "y", "plain", 0, None),
                ("write", "y", "plain", 1), ("read", "x", "plain", 1, B)]
        self.breaks(None, text, [line], [A, B], [(0, 3)])

    def test_two_at_once(self):
        # Ring and parted are told by their order above; parted and stale:
        text = "boxes x\nhand\nwrite x 0 plain\nwrite x 0 plain\nhand\nchange r x add 1 loose"
        lines = [[("write", "x", "plain", 0)] * 2, [("change", "x", "loose", 0, 1, None)]]
        self.assertEqual(self.breaks("parted", text, lines, [B, A, D]), ["parted", "stale"])
        # Ring and stale:
        text = "boxes x y\nhand\nread r x taking\nwrite y 0 giving\nhand\nread r y taking\nwrite x 0 giving"
        lines = [[("read", "x", "taking", 0, E), ("write", "y", "giving", 0)],
                 [("read", "y", "taking", 0, B), ("write", "x", "giving", 0)]]
        self.assertEqual(self.breaks("ring", text, lines, [E], [B]), ["ring", "stale"])

    def test_all_drawings_of_small_programs(self):
        told = {}
        for text in SMALL:
            program = read(text)
            for lines, rows in oracle.drawings(program, oracle.numbers_of(program)):
                graph = Graph(lines, rows)
                self.assertIs(is_drawing(program, graph), True, (text, graph))
                self.assertEqual(before(program, graph), sorted(oracle.before(lines)))
                rules = oracle.broken(lines, rows)
                self.assertEqual(breach(program, graph), rules[0] if rules else None, (text, graph))
                self.assertIs(is_graph(program, graph), not rules)
                told[tuple(rules)] = told.get(tuple(rules), 0) + 1
        self.assertEqual(len(told), 8)

    def test_no_programs(self):
        refuses_programs(self, lambda program: breach(program, Graph([[]], [[]])))
        refuses_programs(self, lambda program: breach(program, None))
        refuses_programs(self, lambda program: is_graph(program, Graph([[]], [[]])))
        refuses_programs(self, lambda program: is_graph(program, None))

    def test_names_and_nothing_changed(self):
        text = "boxes x\nhand\nwrite x 1 plain\nwrite x 1 plain"
        lines, rows = [[("write", "x", "plain", 1)] * 2], [[B, A]]
        program, graph = read(text), Graph(lines, rows)
        self.assertEqual(breach(graph=graph, program=program), "stale")
        self.assertIs(is_graph(thing=graph, program=program), False)
        self.assertEqual((program, graph), (read(text), Graph(lines, rows)))


class GraphOfProgramTest(unittest.TestCase):
    TEXT = "boxes x\nhand\nwrite x 1 plain\nread r x loose\nhand\nchange r x add 1 both\nread r x plain"
    LINES = [[("write", "x", "plain", 1), ("read", "x", "loose", 1, (0, 0))],
             [("change", "x", "both", 0, 1, None), ("read", "x", "plain", 1, (1, 0))]]
    ROWS = [[(1, 0), (0, 0)]]

    def test_the_graph(self):
        self.assertIs(is_graph(read(self.TEXT), Graph(self.LINES, self.ROWS)), True)

    def refuse(self, thing):
        self.assertIs(is_graph(read(self.TEXT), thing), False)

    def test_a_part_of_a_note_put_otherwise(self):
        for hand, line in enumerate(self.LINES):
            for at, note in enumerate(line):
                for place, part in enumerate(note):
                    for other in ["y", "change", "fence", "giving", 2, 3, (0, 1), (2, 0), [0, 0], *STRANGE]:
                        if isinstance(other, (str, type(None))) and other == part:
                            continue
                        lines = copy.deepcopy(self.LINES)
                        lines[hand][at] = put(note, place, other)
                        self.refuse(Graph(lines, self.ROWS))

    def test_rows_and_lines_put_otherwise(self):
        for rows in [[], [[]], [[(1, 0)]], [[(1, 0), (0, 0), (0, 0)]], [[(1, 0), (1, 0)]], [[(1, 0), (0, 1)]],
                     [[(True, 0), (0, 0)]], [[(1, False), (0, 0)]], [[[1, 0], (0, 0)]], [((1, 0), (0, 0))],
                     ([(1, 0), (0, 0)],), [[(1, 0), (0, 0)], []], [[(0, 0), (1, 0)]], [None]]:
            self.refuse(Graph(self.LINES, rows))
        for lines in [[], [[], []], self.LINES[:1], [*self.LINES, []], tuple(self.LINES), self.LINES[::-1],
                      [tuple(line) for line in self.LINES], [[list(note) for note in line] for line in self.LINES],
                      [[*self.LINES[0], ("fence", "both")], self.LINES[1]], [self.LINES[0], []], [self.LINES[0], None]]:
            self.refuse(Graph(lines, self.ROWS))

    def test_things_of_other_kinds(self):
        for thing in [self.LINES, (self.LINES, self.ROWS), [], (), "", 0, 1, Graph, self.TEXT, *STRANGE]:
            self.refuse(thing)


if __name__ == "__main__":
    unittest.main()
