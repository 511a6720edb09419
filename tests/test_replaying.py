"""Promises 3.1 and 3.3, and what 0.2 and 1.2 say of them."""

import copy
import unittest

from readsfrom.graphs import Graph
from readsfrom.programtexts import read
from readsfrom.replaying import is_drawing
from tests.things import PASSED, PASSED_LINES, PASSED_ROWS, STRANGE, put, refuses_programs

# Of each deed alone, beside a hand that writes 1, 2 and 3 to x: what notes it makes, where the register r has 0.
NOTES_OF = [
    ("read r x plain", [("read", "x", "plain", 0, None), ("read", "x", "plain", 2, (1, 1))]),
    ("read r x loose", [("read", "x", "loose", 3, (1, 2))]),
    ("read r x taking", [("read", "x", "taking", 1, (1, 0))]),
    ("write x 7 plain", [("write", "x", "plain", 7)]),
    ("write x r loose", [("write", "x", "loose", 0)]),
    ("write x q giving", [("write", "x", "giving", 0)]),
    ("change r x add 9 loose", [("change", "x", "loose", 0, 9, None), ("change", "x", "loose", 2, 1, (1, 1))]),
    ("change r x add r giving", [("change", "x", "giving", 3, 3, (1, 2))]),
    ("change r x put 4 taking", [("change", "x", "taking", 3, 4, (1, 2))]),
    ("change r x put r both", [("change", "x", "both", 3, 0, (1, 2))]),
    ("swap r x 0 5 loose", [("change", "x", "loose", 0, 5, None), ("read", "x", "loose", 1, (1, 0))]),
    ("swap r x 1 r giving", [("change", "x", "giving", 1, 0, (1, 0)), ("read", "x", "loose", 0, None)]),
    ("swap r x 2 5 taking", [("change", "x", "taking", 2, 5, (1, 1)), ("read", "x", "taking", 1, (1, 0))]),
    ("swap r x 3 5 both", [("change", "x", "both", 3, 5, (1, 2)), ("read", "x", "taking", 0, None)]),
    ("wait r x 0 plain", [("read", "x", "plain", 0, None)]),
    ("wait r x 2 taking", [("read", "x", "taking", 2, (1, 1))]),
    ("grab r x 0 6 loose", [("change", "x", "loose", 0, 6, None)]),
    ("grab r x 3 r both", [("change", "x", "both", 3, 0, (1, 2))]),
    ("fence giving", [("fence", "giving")]),
    ("fence taking", [("fence", "taking")]),
    ("fence both", [("fence", "both")]),
]

WRITES = "\nhand\nwrite x 1 plain\nwrite x 2 plain\nwrite x 3 plain"
WRITTEN = [("write", "x", "plain", 1), ("write", "x", "plain", 2), ("write", "x", "plain", 3)]


def alone(deed, note):
    """A program of this deed and of writes, and a graph of this note and of theirs."""
    program = read("boxes x y\nhand\n" + deed + WRITES)
    row = [(0, 0)] if note[0] in ("write", "change") else []
    return program, Graph([[note], WRITTEN], [row + [(1, 0), (1, 1), (1, 2)], []])


class DrawingTest(unittest.TestCase):
    def take(self, program, lines, rows):
        self.assertIs(is_drawing(program, Graph(lines, rows)), True, (lines, rows))

    def refuse(self, program, lines, rows):
        self.assertIs(is_drawing(program, Graph(lines, rows)), False)

    def test_notes_of_each_deed(self):
        for deed, notes in NOTES_OF:
            for note in notes:
                program, graph = alone(deed, note)
                self.assertIs(is_drawing(program, graph), True, (deed, note))

    def test_notes_of_no_other_deed(self):
        for deed, note in [
            ("read r x plain", ("read", "x", "loose", 0, None)),
            ("read r x plain", ("read", "y", "plain", 0, None)),
            ("read r x plain", ("write", "x", "plain", 0)),
            ("read r x plain", ("fence", "both")),
            ("wait r x 2 taking", ("read", "x", "taking", 1, (1, 0))),
            ("wait r x 2 taking", ("read", "x", "taking", 0, None)),
            ("grab r x 2 1 both", ("read", "x", "taking", 1, (1, 0))),
            ("grab r x 2 1 both", ("change", "x", "both", 1, 1, (1, 0))),
            ("swap r x 0 5 loose", ("read", "x", "loose", 0, None)),
            ("swap r x 0 5 both", ("read", "x", "taking", 0, None)),
            ("swap r x 1 5 both", ("read", "x", "both", 0, None)),
            ("swap r x 1 5 giving", ("read", "x", "giving", 0, None)),
            ("swap r x 1 5 giving", ("read", "x", "plain", 0, None)),
            ("swap r x 1 5 taking", ("read", "x", "loose", 0, None)),
            ("swap r x 1 5 loose", ("change", "x", "loose", 2, 5, (1, 1))),
            ("swap r x 1 5 both", ("change", "x", "taking", 1, 5, (1, 0))),
            ("change r x add 9 loose", ("change", "x", "loose", 2, 9, (1, 1))),
            ("change r x add 9 loose", ("change", "x", "loose", 0, 0, None)),
            ("change r x put 4 taking", ("change", "x", "taking", 3, 7, (1, 2))),
            ("change r x put r taking", ("change", "x", "taking", 3, 3, (1, 2))),
            ("change r x put 4 taking", ("read", "x", "taking", 3, (1, 2))),
            ("write x r loose", ("write", "x", "loose", 1)),
            ("write x 7 plain", ("write", "y", "plain", 7)),
            ("fence both", ("fence", "taking")),
            ("claim r is 0", ("fence", "both")),
            ("skip r is 0 1", ("fence", "both")),
        ]:
            program, graph = alone(deed, note)
            self.assertIs(is_drawing(program, graph), False, (deed, note))

    def test_to_some_note_or_to_the_end(self):
        program = read(PASSED)
        self.take(program, PASSED_LINES, PASSED_ROWS)
        self.take(program, [[], []], [[], []])
        self.take(program, [[], PASSED_LINES[1]], [[(1, 2)], []])
        self.take(program, [[], PASSED_LINES[1][:2]], [[], []])
        self.take(program, [[], PASSED_LINES[1][:1]], [[], []])
        self.take(program, [PASSED_LINES[0][:1], PASSED_LINES[1]], [[(1, 2)], []])
        self.refuse(program, [PASSED_LINES[0], PASSED_LINES[1][:2]], [[], [(0, 1)]])
        self.refuse(program, [[], PASSED_LINES[1][1:]], [[(1, 1)], []])
        self.refuse(program, [PASSED_LINES[0][1:], []], [[], [(0, 0)]])

    def test_hands_without_deeds(self):
        self.take((["x"], [[]]), [[]], [[]])
        self.take((["x", "y"], [[], []]), [[], []], [[], []])
        self.refuse((["x"], [[]]), [[("fence", "both")]], [[]])
        self.take((["x"], [[], [("fence", "both")]]), [[], [("fence", "both")]], [[]])

    def test_longer_than_the_hand_goes(self):
        program = read(PASSED)
        lines = [PASSED_LINES[0], [*PASSED_LINES[1], ("fence", "both")]]
        self.refuse(program, lines, PASSED_ROWS)
        lines = [[*PASSED_LINES[0], ("write", "y", "giving", 3)], PASSED_LINES[1]]
        self.refuse(program, lines, [[(1, 2)], [(0, 1), (0, 2)]])

    def test_registers_by_what_was_read(self):
        program = read("boxes x\nhand\nread r x loose\nchange r x add r loose\nwrite x r plain\nhand\nwrite x 6 plain")
        line = [("read", "x", "loose", 6, (1, 0)), ("change", "x", "loose", 6, 2, (1, 0)), ("write", "x", "plain", 6)]
        rows = [[(1, 0), (0, 1), (0, 2)]]
        other = [("write", "x", "plain", 6)]
        self.take(program, [line, other], rows)
        self.refuse(program, [[line[0], ("change", "x", "loose", 6, 6, (1, 0)), line[2]], other], rows)
        self.refuse(program, [[line[0], line[1], ("write", "x", "plain", 2)], other], rows)
        self.refuse(program, [[("read", "x", "loose", 0, None), line[1], line[2]], other], rows)
        self.take(program, [[("read", "x", "loose", 0, None), put(line[1], 4, 6), line[2]], other], rows)
        # What a swap that doesn't write and a wait read, is in their registers too.
        program = read("boxes x\nhand\nswap r x 1 r loose\nwrite x r plain\nwait s x 6 loose\nwrite x s plain"
                       "\nhand\nwrite x 6 plain")
        line = [("read", "x", "loose", 6, (1, 0)), ("write", "x", "plain", 6), ("read", "x", "loose", 6, (0, 1)),
                ("write", "x", "plain", 6)]
        self.take(program, [line, other], [[(0, 3), (1, 0), (0, 1)]])
        line[1] = ("write", "x", "plain", 0)
        self.refuse(program, [[*line[:2], put(line[2], 4, (1, 0)), line[3]], other], [[(0, 3), (1, 0), (0, 1)]])

    def test_registers_of_hands_are_their_own(self):
        program = read("boxes x\nhand\nread r x loose\nhand\nwrite x r plain\nhand\nwrite x 6 plain")
        other = [("write", "x", "plain", 6)]
        seen = [("read", "x", "loose", 6, (2, 0))]
        self.take(program, [seen, [("write", "x", "plain", 0)], other], [[(1, 0), (2, 0)]])
        self.refuse(program, [seen, [("write", "x", "plain", 6)], other], [[(1, 0), (2, 0)]])

    def test_skips(self):
        def made(row, number):
            text = (f"boxes x\nhand\nread r x loose\n{row}\nfence giving\nfence taking\nfence both\nhand\n"
                    "write x 1 plain")
            first = ("read", "x", "loose", number, (1, 0) if number == 1 else None)
            return read(text), first

        fences = [("fence", "giving"), ("fence", "taking"), ("fence", "both")]
        for row, number, skipped in [
            ("skip r is 1 1", 1, 1), ("skip r is 1 1", 0, 0), ("skip r isnt 1 1", 1, 0), ("skip r isnt 1 1", 0, 1),
            ("skip r is 1 2", 1, 2), ("skip r is 1 3", 1, 3), ("skip r is 1 4", 1, 3), ("skip r is 1 8", 1, 3),
            ("skip q is 0 2", 1, 2), ("skip q isnt 0 2", 1, 0), ("skip r is 1 1\nskip r is 1 1", 1, 0),
            ("skip r is 1 2\nskip r is 1 1", 1, 1), ("skip r isnt 1 1\nskip r is 1 1", 1, 1),
            ("claim r is 1", 1, 0), ("claim r isnt 0", 1, 0), ("claim r is 1", 0, 3), ("claim r isnt 1", 1, 3),
            ("skip r is 1 1\nclaim r is 0", 1, 0), ("skip r isnt 1 1\nclaim r is 0", 1, 3),
        ]:
            program, first = made(row, number)
            for end in range(4):
                line = [first, *fences[skipped:][:end]]
                self.take(program, [line, [("write", "x", "plain", 1)]], [[(1, 0)]])
            if skipped > 0:
                self.refuse(program, [[first, *fences], [("write", "x", "plain", 1)]], [[(1, 0)]])
                self.refuse(program, [[first, fences[0]], [("write", "x", "plain", 1)]], [[(1, 0)]])
            self.refuse(program, [[first, *fences[skipped:], ("fence", "both")], [("write", "x", "plain", 1)]],
                        [[(1, 0)]])

    def test_skips_and_claims_at_first(self):
        program = read("boxes x\nhand\nskip r is 0 1\nfence giving\nclaim r is 0\nfence taking")
        self.take(program, [[("fence", "taking")]], [[]])
        self.refuse(program, [[("fence", "giving")]], [[]])
        program = read("boxes x\nhand\nclaim r isnt 0\nfence taking")
        self.take(program, [[]], [[]])
        self.refuse(program, [[("fence", "taking")]], [[]])

    def test_a_part_of_a_note_put_otherwise(self):
        program = read(PASSED)
        for hand, line in enumerate(PASSED_LINES):
            for at, note in enumerate(line):
                for place, part in enumerate(note):
                    for other in ["", "x", "y", "z", "read", "write", "change", "fence", "plain", "loose", "both", 0,
                                  1, 3, 4, (0, 0), (0, 1), (1, 1), (1, 2), (0, 2), (2, 0), *STRANGE]:
                        if type(other) in (int, str, tuple, type(None)) and other == part:
                            continue
                        lines = copy.deepcopy(PASSED_LINES)
                        lines[hand][at] = put(note, place, other)
                        self.refuse(program, lines, PASSED_ROWS)
                for other in [note[:-1], note[1:], note + (1,), note + (None,), (), list(note), (note,), "fence both",
                              dict(enumerate(note)), *STRANGE]:
                    lines = copy.deepcopy(PASSED_LINES)
                    lines[hand][at] = other
                    self.refuse(program, lines, PASSED_ROWS)

    def test_numbers_true_and_false(self):
        program = read("boxes x\nhand\nwrite x 1 plain\nread r x loose\nhand\nchange r x add 1 both\nread r x plain")
        lines = [[("write", "x", "plain", 1), ("read", "x", "loose", 1, (0, 0))],
                 [("change", "x", "both", 0, 1, None), ("read", "x", "plain", 1, (1, 0))]]
        rows = [[(1, 0), (0, 0)]]
        self.take(program, lines, rows)
        for hand, at, place, part in [(0, 0, 3, True), (0, 1, 3, True), (1, 0, 3, False), (1, 0, 4, True),
                                      (0, 1, 4, (False, 0)), (0, 1, 4, (0, False)), (1, 1, 4, (True, 0)),
                                      (1, 1, 4, (1, False)), (0, 0, 3, 1.0), (0, 1, 4, (0.0, 0)),
                                      (0, 1, 4, [0, 0]), (0, 1, 4, (0, 0, 0)), (0, 1, 4, (0,))]:
            changed = copy.deepcopy(lines)
            changed[hand][at] = put(changed[hand][at], place, part)
            self.refuse(program, changed, rows)
        for call in [(True, 0), (1, False), (1.0, 0), [1, 0], (1, 0, 0), (1,), 1, "10", *STRANGE]:
            self.refuse(program, lines, [[call, (0, 0)]])
            self.refuse(program, lines, [[(0, 0), call]])

    def test_sources(self):
        program = read("boxes x y\nhand\nread r x loose\nhand\nwrite x 1 plain\nwrite x 2 plain\nwrite y 1 plain"
                       "\nfence both\nchange r x put 1 both\nread r x plain\nwrite x 4 plain")
        line = [("write", "x", "plain", 1), ("write", "x", "plain", 2), ("write", "y", "plain", 1), ("fence", "both"),
                ("change", "x", "both", 2, 1, (1, 1)), ("read", "x", "plain", 1, (1, 0)), ("write", "x", "plain", 4)]
        rows = [[(1, 0), (1, 1), (1, 4), (1, 6)], [(1, 2)]]
        for number, source, is_one in [
            (0, None, True), (1, None, False), (1, (1, 0), True), (2, (1, 1), True), (1, (1, 1), False),
            (2, (1, 0), False), (0, (1, 0), False), (1, (1, 2), False), (1, (1, 3), False), (1, (1, 4), True),
            (2, (1, 4), False), (1, (1, 5), False), (1, (1, 7), False), (1, (0, 0), False), (1, (0, 1), False),
            (1, (2, 0), False), (1, (-1, 0), False), (1, (1, -2), False), (1, (1, -6), False), (1, (1, -1), False),
            (4, (1, 6), True), (4, (1, -1), False), (4, (-1, 6), False), (4, (-1, -1), False), (4, (1, 7), False),
            (1, (10 ** 59, 0), False), (1, (1, 10 ** 59), False), (1, (-10 ** 59, 0), False), (1, "10", False),
        ]:
            graph = Graph([[("read", "x", "loose", number, source)], line], rows)
            self.assertIs(is_drawing(program, graph), is_one, (number, source))

    def test_a_box_can_have_0_written_too(self):
        program = read("boxes x\nhand\nread r x loose\nhand\nwrite x 0 plain")
        for source in [None, (1, 0)]:
            self.take(program, [[("read", "x", "loose", 0, source)], [("write", "x", "plain", 0)]], [[(1, 0)]])
        self.refuse(program, [[("read", "x", "loose", 0, (1, 0))], []], [[]])

    def test_drawings_that_break_rules(self):
        program = read("boxes x\nhand\nchange r x put 0 both\nhand\nchange r x put 0 both")
        for one, other in [(None, None), ((0, 0), (0, 0)), ((1, 0), (0, 0)), ((0, 0), None), ((0, 0), (1, 0))]:
            for row in [[(0, 0), (1, 0)], [(1, 0), (0, 0)]]:
                self.take(program, [[("change", "x", "both", 0, 0, one)], [("change", "x", "both", 0, 0, other)]],
                          [row])

    def test_rows(self):
        program = read("boxes x y\nhand\nwrite x 1 plain\nwrite x 1 plain\nread r x plain\nhand\nwrite y 1 plain\n"
                       "change r x put 1 both")
        lines = [[("write", "x", "plain", 1), ("write", "x", "plain", 1), ("read", "x", "plain", 0, None)],
                 [("write", "y", "plain", 1), ("change", "x", "both", 0, 1, None)]]
        one, two, three, other = (0, 0), (0, 1), (1, 1), (1, 0)
        for row in [[one, two, three], [two, one, three], [three, two, one], [one, three, two]]:
            self.take(program, lines, [row, [other]])
        for row in [[], [one], [one, two], [one, two, two], [one, one, two], [one, two, three, three],
                    [one, two, three, other], [one, two, other], [one, two, three, (0, 2)], [one, two, (0, 2)],
                    [one, two, three, (2, 0)], [one, two, (1, -1)], [one, two, three, None], (one, two, three),
                    [list(one), two, three], [[one, two, three]]]:
            self.refuse(program, lines, [row, [other]])
        for row in [[], [other, other], [other, one], [one], [(1, 2)], [(0, 2)], [None], (other,), None]:
            self.refuse(program, lines, [[one, two, three], row])
        self.refuse(program, lines, [[other], [one, two, three]])

    def test_too_many_and_too_few(self):
        program = read(PASSED)
        self.refuse(program, PASSED_LINES, PASSED_ROWS[:1])
        self.refuse(program, PASSED_LINES, [*PASSED_ROWS, []])
        self.refuse(program, [*PASSED_LINES, []], PASSED_ROWS)
        self.refuse(program, [[]], [[], []])
        self.refuse(program, [], [])
        self.refuse(program, [[], [], []], [[], []])
        self.refuse(program, [[], []], [[]])
        self.take(program, [[], []], [[], []])

    def test_lists_for_tuples_and_tuples_for_lists(self):
        program = read(PASSED)
        self.refuse(program, tuple(PASSED_LINES), PASSED_ROWS)
        self.refuse(program, PASSED_LINES, tuple(PASSED_ROWS))
        self.refuse(program, [tuple(line) for line in PASSED_LINES], PASSED_ROWS)
        self.refuse(program, PASSED_LINES, [tuple(row) for row in PASSED_ROWS])
        self.refuse(program, [[list(note) for note in line] for line in PASSED_LINES], PASSED_ROWS)
        self.refuse(program, PASSED_LINES, [[list(call) for call in row] for row in PASSED_ROWS])

    def test_things_of_other_kinds(self):
        program = read(PASSED)
        for thing in [(PASSED_LINES, PASSED_ROWS), [PASSED_LINES, PASSED_ROWS], PASSED_LINES, [], (), "", 0, 1,
                      repr(Graph(PASSED_LINES, PASSED_ROWS)), Graph, program, *STRANGE]:
            self.assertIs(is_drawing(program, thing), False)
        for one in STRANGE:
            self.refuse(program, [[one], []], [[], []])
            self.refuse(program, [[], []], [[one], []])

    def test_no_programs(self):
        refuses_programs(self, lambda program: is_drawing(program, Graph([[]], [[]])))
        refuses_programs(self, lambda program: is_drawing(program, None))

    def test_names_and_nothing_changed(self):
        program, graph = read(PASSED), Graph(PASSED_LINES, PASSED_ROWS)
        self.assertIs(is_drawing(thing=graph, program=program), True)
        self.assertEqual(program, read(PASSED))
        self.assertEqual(graph, Graph(PASSED_LINES, PASSED_ROWS))


if __name__ == "__main__":
    unittest.main()
