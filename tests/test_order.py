"""Promise 4.1, and what 0.2 and 1.2 say of it."""

import unittest

from readsfrom.graphs import Graph
from readsfrom.order import before
from readsfrom.programtexts import read
from readsfrom.replaying import is_drawing
from tests import oracle
from tests.things import refuses_programs

A, B, C, D, E, F = (0, 0), (0, 1), (0, 2), (1, 0), (1, 1), (1, 2)


class BeforeTest(unittest.TestCase):
    def told(self, text, lines, rows):
        program, graph = read(text), Graph(lines, rows)
        self.assertIs(is_drawing(program, graph), True)
        pairs = before(program, graph)
        self.assertIs(type(pairs), list)
        self.assertEqual(pairs, sorted(oracle.before(lines)))
        return pairs

    def meets(self, ahead, mode, other, behind):
        """Whether a note ahead of all others of its hand is before one behind all others, by this meeting."""
        ahead = [("fence", word) for word in ahead]
        behind = [("fence", word) for word in behind]
        deeds = [*ahead, ("write", "x", 1, mode)], [("read", "r", "x", other), *behind]
        lines = [[*ahead, ("write", "x", mode, 1)], [("read", "x", other, 1, (0, len(ahead))), *behind]]
        program, graph = (["x"], list(deeds)), Graph(lines, [[(0, len(ahead))]])
        self.assertIs(is_drawing(program, graph), True)
        pairs = before(program, graph)
        self.assertEqual(pairs, sorted(oracle.before(lines)))
        return [(one[1], two[1]) for one, two in pairs if one[0] != two[0]]

    def test_lines(self):
        text = "boxes x y\nhand\nwrite x 1 plain\nread r y plain\nfence both\nhand\nhand\nwrite y 1 plain"
        lines = [[("write", "x", "plain", 1), ("read", "y", "plain", 1, (2, 0)), ("fence", "both")], [],
                 [("write", "y", "plain", 1)]]
        self.assertEqual(self.told(text, lines, [[(0, 0)], [(2, 0)]]), [(A, B), (A, C), (B, C)])
        self.assertEqual(self.told(text, [[], [], []], [[], []]), [])
        self.assertEqual(self.told(text, [lines[0][:1], [], []], [[A], []]), [])
        self.assertEqual(self.told("boxes x\nhand", [[]], [[]]), [])

    def test_meetings_by_mode(self):
        for mode in ["plain", "loose", "giving"]:
            for other in ["plain", "loose", "taking"]:
                self.assertEqual(self.meets([], mode, other, []),
                                 [(0, 0)] if (mode, other) == ("giving", "taking") else [])

    def test_meetings_by_fences_of_the_writer(self):
        for mode in ["plain", "loose"]:
            self.assertEqual(self.meets(["giving"], mode, "taking", []), [(0, 0)])
            self.assertEqual(self.meets(["both"], mode, "taking", []), [(0, 0)])
            self.assertEqual(self.meets(["taking"], mode, "taking", []), [])
            self.assertEqual(self.meets(["both"], mode, "plain", []), [])
            # The last fence of them is as good as the first; what is ahead of it goes along.
            self.assertEqual(self.meets(["taking", "giving", "taking"], mode, "taking", []), [(0, 0), (1, 0)])
        self.assertEqual(self.meets(["taking"], "giving", "taking", []), [(0, 0), (1, 0)])

    def test_meetings_by_fences_of_the_reader(self):
        for other in ["plain", "loose"]:
            self.assertEqual(self.meets([], "giving", other, ["taking"]), [(0, 1)])
            self.assertEqual(self.meets([], "giving", other, ["both"]), [(0, 1)])
            self.assertEqual(self.meets([], "giving", other, ["giving"]), [])
            self.assertEqual(self.meets([], "plain", other, ["both"]), [])
            self.assertEqual(self.meets([], "giving", other, ["giving", "taking", "giving"]), [(0, 2), (0, 3)])
        self.assertEqual(self.meets([], "giving", "taking", ["giving"]), [(0, 0), (0, 1)])
        self.assertEqual(self.meets(["giving"], "plain", "loose", ["taking"]), [(0, 1)])
        self.assertEqual(self.meets(["both", "taking"], "loose", "plain", ["giving", "both"]), [(0, 2)])

    def test_fences_at_the_wrong_side(self):
        text = "boxes x\nhand\nwrite x 1 plain\nfence both\nhand\nfence both\nread r x plain"
        lines = [[("write", "x", "plain", 1), ("fence", "both")], [("fence", "both"), ("read", "x", "plain", 1, A)]]
        self.assertEqual(self.told(text, lines, [[A]]), [(A, B), (D, E)])
        text = "boxes x\nhand\nwrite x 1 giving\nfence both\nhand\nfence both\nread r x taking"
        lines = [[("write", "x", "giving", 1), ("fence", "both")], [("fence", "both"), ("read", "x", "taking", 1, A)]]
        self.assertEqual(self.told(text, lines, [[A]]), [(A, B), (A, E), (D, E)])

    def test_no_note_but_a_fence_stands_for_another_one(self):
        text = "boxes x y\nhand\nwrite y 1 giving\nchange r y add 1 both\nwrite x 1 plain\nhand\nread r x taking"
        line = [("write", "y", "giving", 1), ("change", "y", "both", 1, 2, A), ("write", "x", "plain", 1)]
        pairs = self.told(text, [line, [("read", "x", "taking", 1, C)]], [[C], [A, B]])
        self.assertEqual(pairs, [(A, B), (A, C), (B, C)])
        text = "boxes x y\nhand\nwrite x 1 giving\nhand\nread r x plain\nread r y taking\nchange r y add 1 both"
        line = [("read", "x", "plain", 1, A), ("read", "y", "taking", 0, None), ("change", "y", "both", 0, 1, None)]
        pairs = self.told(text, [[("write", "x", "giving", 1)], line], [[A], [F]])
        self.assertEqual(pairs, [(D, E), (D, F), (E, F)])

    def test_only_its_own_source_meets(self):
        text = "boxes x\nhand\nwrite x 1 giving\nwrite x 1 giving\nhand\nread r x taking\nread r x taking"
        one, two, start = ("read", "x", "taking", 1, A), ("read", "x", "taking", 1, B), ("read", "x", "taking", 0, None)
        line = [("write", "x", "giving", 1)] * 2
        self.assertEqual(self.told(text, [line, [one]], [[A, B]]), [(A, B), (A, D)])
        self.assertEqual(self.told(text, [line, [two]], [[A, B]]), [(A, B), (A, D), (B, D)])
        self.assertEqual(self.told(text, [line, [start]], [[A, B]]), [(A, B)])
        self.assertEqual(self.told(text, [line, [start, one]], [[A, B]]), [(A, B), (A, E), (D, E)])

    def chained(self, modes, ahead="plain", last="taking"):
        """Pairs of a write, changes of these modes by other hands, one of another, and a read of the last of them."""
        many = len(modes)
        deeds = [[("write", "x", 1, ahead)], [("read", "r", "x", last)]]
        lines = [[("write", "x", ahead, 1)], [("read", "x", last, 1 + many, (2, many - 1) if many else (0, 0))], []]
        deeds.append([("change", "r", "x", "add", 1, mode) for mode in modes])
        for at, mode in enumerate(modes):
            lines[2].append(("change", "x", mode, 1 + at, 2 + at, (2, at - 1) if at else (0, 0)))
        program, graph = (["x"], deeds), Graph(lines, [[(0, 0)] + [(2, at) for at in range(many)]])
        self.assertIs(is_drawing(program, graph), True)
        pairs = before(program, graph)
        self.assertEqual(pairs, sorted(oracle.before(lines)))
        return [pair for pair in pairs if pair[0] == (0, 0) or pair[1] == (1, 0)]

    def test_meetings_along_changes(self):
        write, reader = (0, 0), (1, 0)
        self.assertEqual(self.chained([], "giving"), [(write, reader)])
        self.assertEqual(self.chained([], "plain"), [])
        self.assertEqual(self.chained(["loose"], "giving"), [(write, reader)])
        self.assertEqual(self.chained(["loose", "loose"], "giving"), [(write, reader)])
        self.assertEqual(self.chained(["loose"] * 7, "giving"), [(write, reader)])
        self.assertEqual(self.chained(["loose", "loose"], "loose"), [])
        self.assertEqual(self.chained(["loose", "loose"], "giving", "loose"), [])
        self.assertEqual(self.chained(["giving", "loose"]), [((2, 0), reader)])
        self.assertEqual(self.chained(["loose", "giving"]), [((2, 0), reader), ((2, 1), reader)])
        self.assertEqual(self.chained(["taking", "loose"], "giving"),
                         [(write, reader), (write, (2, 0)), (write, (2, 1))])
        self.assertEqual(self.chained(["loose", "both"], "giving"),
                         [(write, reader), (write, (2, 1)), ((2, 0), reader), ((2, 1), reader)])

    def test_a_write_between_stops_the_chain(self):
        text = ("boxes x\nhand\nwrite x 1 giving\nhand\nread r x loose\nwrite x 1 loose\nhand\n"
                "read r x taking")
        lines = [[("write", "x", "giving", 1)], [("read", "x", "loose", 1, A), ("write", "x", "loose", 1)],
                 [("read", "x", "taking", 1, E)]]
        self.assertEqual(self.told(text, lines, [[A, E]]), [(D, E)])
        text = "boxes x\nhand\nwrite x 1 giving\nhand\nswap r x 0 1 both\nhand\nread r x taking"
        lines = [[("write", "x", "giving", 1)], [("read", "x", "taking", 1, A)], [("read", "x", "taking", 1, A)]]
        self.assertEqual(self.told(text, lines, [[A]]), [(A, D), (A, (2, 0))])

    def test_fences_along_changes(self):
        text = ("boxes x\nhand\nfence giving\nwrite x 1 loose\nhand\nchange r x add 1 loose\nhand\nread r x loose\n"
                "fence both")
        lines = [[("fence", "giving"), ("write", "x", "loose", 1)], [("change", "x", "loose", 1, 2, B)],
                 [("read", "x", "loose", 2, D), ("fence", "both")]]
        self.assertEqual(self.told(text, lines, [[B, D]]), [(A, B), (A, (2, 1)), ((2, 0), (2, 1))])

    def test_steps_one_behind_the_other(self):
        text = ("boxes x y\nhand\nwrite x 1 plain\nwrite y 1 giving\nhand\nread r y taking\nwrite y 2 giving\nhand\n"
                "read r y taking\nread r x plain")
        lines = [[("write", "x", "plain", 1), ("write", "y", "giving", 1)],
                 [("read", "y", "taking", 1, B), ("write", "y", "giving", 2)],
                 [("read", "y", "taking", 2, E), ("read", "x", "plain", 0, None)]]
        pairs = self.told(text, lines, [[A], [B, E]])
        calls = [A, B, D, E, (2, 0), (2, 1)]
        self.assertEqual(pairs, [(one, two) for at, one in enumerate(calls) for two in calls[at + 1:]])

    def test_rings(self):
        text = "boxes x\nhand\nchange r x put 0 both\nhand\nchange r x put 0 both"
        lines = [[("change", "x", "both", 0, 0, (1, 0))], [("change", "x", "both", 0, 0, (0, 0))]]
        self.assertEqual(self.told(text, lines, [[A, D]]), [(A, A), (A, D), (D, A), (D, D)])
        lines = [[("change", "x", "both", 0, 0, (0, 0))], []]
        self.assertEqual(self.told(text, lines, [[A]]), [(A, A)])
        lines = [[("change", "x", "both", 0, 0, (0, 0))], [("change", "x", "both", 0, 0, (0, 0))]]
        self.assertEqual(self.told(text, lines, [[A, D]]), [(A, A), (A, D)])
        text = "boxes x y\nhand\nread r x taking\nwrite y 0 giving\nhand\nread r y taking\nwrite x 0 giving"
        lines = [[("read", "x", "taking", 0, E), ("write", "y", "giving", 0)],
                 [("read", "y", "taking", 0, B), ("write", "x", "giving", 0)]]
        calls = [A, B, D, E]
        self.assertEqual(self.told(text, lines, [[E], [B]]), [(one, two) for one in calls for two in calls])
        text = "boxes x\nhand\nchange r x put 0 loose\nhand\nchange r x put 0 loose"
        lines = [[("change", "x", "loose", 0, 0, (1, 0))], [("change", "x", "loose", 0, 0, (0, 0))]]
        self.assertEqual(self.told(text, lines, [[A, D]]), [])

    def test_meetings_in_one_line(self):
        text = "boxes x\nhand\nread r x taking\nwrite x 0 giving"
        lines = [[("read", "x", "taking", 0, B), ("write", "x", "giving", 0)]]
        self.assertEqual(self.told(text, lines, [[B]]), [(A, A), (A, B), (B, A), (B, B)])

    def test_no_programs(self):
        refuses_programs(self, lambda program: before(program, Graph([[]], [[]])))
        refuses_programs(self, lambda program: before(program, None))

    def test_told_anew_and_nothing_changed(self):
        text = "boxes x\nhand\nfence both\nfence both"
        program, graph = read(text), Graph([[("fence", "both")] * 2], [[]])
        told = before(graph=graph, program=program)
        self.assertEqual(told, [(A, B)])
        told.clear()
        self.assertEqual(before(program, graph), [(A, B)])
        self.assertEqual((program, graph), (read(text), Graph([[("fence", "both")] * 2], [[]])))


if __name__ == "__main__":
    unittest.main()
