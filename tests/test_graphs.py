"""Promise 3.2, and what 0.2 says of it."""

import copy
import unittest

from readsfrom.graphs import Graph
from tests.things import STRANGE, Rude

LINES = [[("write", "x", "plain", 1), ("fence", "both")], [("read", "x", "loose", 1, (0, 0))], []]
ROWS = [[(0, 0)], []]


def graph():
    return Graph(copy.deepcopy(LINES), copy.deepcopy(ROWS))


class GraphTest(unittest.TestCase):
    def test_lines_and_rows(self):
        self.assertEqual(graph().lines(), LINES)
        self.assertEqual(graph().rows(), ROWS)
        by_name = Graph(rows=ROWS, lines=LINES)
        self.assertEqual((by_name.lines(), by_name.rows()), (LINES, ROWS))
        for told in (graph().lines(), graph().rows()):
            self.assertIs(type(told), list)
            for one in told:
                self.assertIs(type(one), list)

    def test_empty(self):
        self.assertEqual((Graph([[]], [[]]).lines(), Graph([[]], [[]]).rows()), ([[]], [[]]))
        self.assertEqual((Graph([], []).lines(), Graph([], []).rows()), ([], []))

    def test_length(self):
        self.assertEqual(len(graph()), 3)
        self.assertEqual(len(Graph([[]], [[], []])), 0)
        self.assertEqual(len(Graph([], [])), 0)
        self.assertEqual(len(Graph([[("fence", "both")]] * 4, [[(0, 0), (1, 0)]])), 4)

    def test_lists_handed_in_and_changed_behind(self):
        lines, rows = copy.deepcopy(LINES), copy.deepcopy(ROWS)
        made = Graph(lines, rows)
        lines[0].pop()
        lines[1][0] = ("fence", "both")
        lines.append([])
        rows[0].clear()
        rows[1].append((0, 0))
        del rows[1]
        self.assertEqual((made.lines(), made.rows(), len(made)), (LINES, ROWS, 3))
        self.assertEqual(made, graph())

    def test_nothing_handed_in_is_changed(self):
        lines, rows = copy.deepcopy(LINES), copy.deepcopy(ROWS)
        made = Graph(lines, rows)
        made.lines()[0].append(1)
        made.rows()[0].append(1)
        self.assertEqual((lines, rows), (LINES, ROWS))

    def test_lists_told_and_changed(self):
        made = graph()
        lines, rows = made.lines(), made.rows()
        self.assertIsNot(made.lines(), lines)
        self.assertIsNot(made.rows(), rows)
        lines[0].clear()
        lines[1][0] = None
        lines.clear()
        rows[0].append((1, 0))
        rows.append([])
        self.assertEqual((made.lines(), made.rows(), len(made)), (LINES, ROWS, 3))
        self.assertEqual(made, graph())
        told = made.lines()
        made.lines()[0].append(1)
        self.assertEqual(told, LINES)

    def test_what_stands_in_the_lists_is_kept_as_it_is(self):
        thing = Rude()
        for one in [*STRANGE, thing, [], ["x"], ("write",), "text"]:
            made = Graph([[one], []], [[one, one]])
            self.assertIs(made.lines()[0][0], one)
            self.assertIs(made.rows()[0][1], one)
            self.assertEqual(len(made), 1)

    def test_alike(self):
        self.assertIs(graph() == graph(), True)
        self.assertIs(graph() != graph(), False)
        self.assertIs(Graph([], []) == Graph([], []), True)

    def test_unlike(self):
        others = [
            Graph(LINES, [[], []]),
            Graph(LINES, [[(0, 0)]]),
            Graph(LINES, [[], [(0, 0)]]),
            Graph(LINES[:2], ROWS),
            Graph([*LINES, []], ROWS),
            Graph([LINES[1], LINES[0], []], ROWS),
            Graph([[("write", "x", "plain", 2), ("fence", "both")], *LINES[1:]], ROWS),
            Graph([[], [], []], ROWS),
            Graph(ROWS, LINES),
        ]
        for other in others:
            self.assertIs(graph() == other, False)
            self.assertIs(graph() != other, True)
            self.assertIs(other == graph(), False)

    def test_like_nothing_else(self):
        made = graph()
        for other in [*STRANGE, LINES, (LINES, ROWS), [LINES, ROWS], repr(made), 3, 0, 1, "", [], ()]:
            self.assertIs(made == other, False)
            self.assertIs(made != other, True)

    def test_repr(self):
        self.assertEqual(repr(graph()), f"Graph({LINES!r}, {ROWS!r})")
        self.assertEqual(repr(Graph([[]], [[], []])), "Graph([[]], [[], []])")
        self.assertEqual(repr(Graph([[("write", "x", "plain", 1)], []], [[(0, 0)]])),
                         "Graph([[('write', 'x', 'plain', 1)], []], [[(0, 0)]])")


if __name__ == "__main__":
    unittest.main()
