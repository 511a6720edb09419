"""Promise 2.1, and what 0.2 and 1.2 say of it."""

import unittest

from readsfrom.errors import NoProgram, NoText
from readsfrom.programtexts import read, shown
from tests.things import LONG_TEXT, MODES, SORTS, STRANGE, hands_of, long_program, put

START = "boxes x y\nhand\n"


def all_deeds():
    """Deeds of each sort, with each mode, number and word that may stand in them, over x and y."""
    deeds = [put(SORTS[sort], len(SORTS[sort]) - 1, mode) for sort in MODES for mode in MODES[sort]]
    for what in [*range(10), "r", "zzzzzz"]:
        deeds.append(("write", "y", what, "plain"))
        deeds.append(("change", "r", "y", "put", what, "loose"))
        deeds.append(("swap", "r", "y", 9, what, "loose"))
        deeds.append(("grab", "r", "y", 9, what, "loose"))
    for number in range(10):
        deeds.append(("swap", "r", "y", number, 0, "loose"))
        deeds.append(("grab", "r", "y", number, 0, "loose"))
        deeds.append(("wait", "r", "y", number, "loose"))
        for word in ["is", "isnt"]:
            deeds.append(("claim", "abcdef", word, number))
            deeds.extend([("skip", "abcdef", word, number, many) for many in range(1, 9)])
    return deeds


class ShownTest(unittest.TestCase):
    def refuse(self, thing, part, hand, number):
        with self.assertRaises(NoProgram) as caught:
            shown(thing)
        told = caught.exception
        self.assertEqual((told.part, told.hand, told.number), (part, hand, number))

    def test_texts(self):
        self.assertEqual(shown((["x"], [[]])), "boxes x\nhand")
        self.assertEqual(shown((["x", "y"], [[], []])), "boxes x y\nhand\nhand")
        self.assertEqual(shown(long_program()), LONG_TEXT)
        program = (["x"], [[("read", "r", "x", "taking"), ("skip", "r", "is", 1, 2), ("claim", "r", "isnt", 0)]])
        self.assertEqual(shown(program), "boxes x\nhand\nread r x taking\nskip r is 1 2\nclaim r isnt 0")

    def test_no_programs(self):
        boxes, hands = long_program()
        for thing in [[boxes, hands], (boxes,), (boxes, hands, 0), LONG_TEXT, *STRANGE]:
            self.refuse(thing, "program", None, None)
        self.refuse(((), ()), "boxes", None, None)
        self.refuse((["b", "a"], None), "boxes", None, 1)
        self.refuse((["x"], ()), "hands", None, None)
        self.refuse((["x"], [[None], [None] * 9]), "hands", 1, None)
        self.refuse((["x"], hands_of(8, 8) + [[None]]), "deeds", 2, 0)
        self.refuse((["x"], hands_of(8, 8, 1)), "deeds", None, None)
        self.refuse((["x"], [[("write", "x", True, "plain")]]), "deeds", 0, 0)

    def test_names_and_nothing_changed(self):
        program = long_program()
        self.assertEqual(shown(program=program), LONG_TEXT)
        self.assertEqual(program, long_program())


class ReadTest(unittest.TestCase):
    def refuse(self, text, row):
        with self.assertRaises(NoText) as caught:
            read(text)
        self.assertEqual(caught.exception.row, row)
        self.assertNotIsInstance(caught.exception.row, bool)

    def test_texts(self):
        self.assertEqual(read("boxes x\nhand"), (["x"], [[]]))
        self.assertEqual(read("boxes a b c d\nhand\nhand\nhand\nhand"), (["a", "b", "c", "d"], [[], [], [], []]))
        self.assertEqual(read(LONG_TEXT), long_program())
        self.assertEqual(read("boxes hand\nhand\nread hand hand plain")[1], [[("read", "hand", "hand", "plain")]])

    def test_what_is_shown_is_read(self):
        for many in [(0,), (8,), (8, 8), (4, 4, 4, 4), (0, 8, 0, 8), (0, 0, 0, 0)]:
            program = (["x"], hands_of(*many))
            self.assertEqual(read(shown(program)), program)
        for deed in all_deeds():
            program = (["x", "y"], [[], [deed, deed]])
            self.assertEqual(read(shown(program)), program)
            # 1 == True, but just one of them is a whole number.
            kinds = [type(part) for part in read(shown(program))[1][1][0]]
            self.assertEqual(kinds, [type(part) for part in deed])

    def test_kinds(self):
        program = read(LONG_TEXT)
        self.assertIsInstance(program, tuple)
        self.assertIsInstance(program[0], list)
        self.assertEqual({type(hand) for hand in program[1]}, {list})
        self.assertEqual({type(deed) for hand in program[1] for deed in hand}, {tuple})

    def test_new_lists(self):
        first = read(LONG_TEXT)
        first[0].append("zzzzzzz")
        first[1][0].clear()
        first[1].pop()
        self.assertEqual(read(LONG_TEXT), long_program())
        program = long_program()
        told = read(shown(program))
        self.assertIsNot(told[0], program[0])
        for one, other in zip(told[1], program[1]):
            self.assertIsNot(one, other)
        again = read("boxes x\nhand\nhand")
        self.assertIsNot(again[1][0], again[1][1])

    def test_no_text(self):
        for thing in [0, 1, [], ["boxes x", "hand"], (["x"], [[]]), b"boxes x\nhand", *STRANGE]:
            self.refuse(thing, 0)

    def test_boxes(self):
        for row in ["", " ", "boxes", "boxes ", "box x", "Boxes x", "x", "hand", "fence both", " boxes x", "boxes x ",
                    "boxes  x", "boxes x  y", "boxes\tx", "boxes x\ty", "boxes X", "boxes x1", "boxes 1", "boxes x x",
                    "boxes y x", "boxes a c b", "boxes abcdefg", "boxes a b c d e", "boxes x, y", "boxesx"]:
            self.refuse(row, 0)
            self.refuse(row + "\nhand", 0)
            self.refuse(row + "\nboxes x\nhand", 0)

    def test_what_can_be_gone_on_with(self):
        self.refuse("boxes x", 1)
        self.refuse("boxes a b c d", 1)
        self.refuse("boxes abcdef", 1)

    def test_rows_behind_the_boxes(self):
        for row in ["", " ", "hand ", " hand", "Hand", "hands", "hand hand", "hand 0", "boxes x", "boxes x y",
                    "fence both", "read r x taking", "\t"]:
            self.refuse("boxes x\n" + row, 1)
            self.refuse("boxes x\n" + row + "\nhand\nhand", 1)

    def test_rows_of_deeds(self):
        for row in ["", " ", "hand ", "hands", "boxes x y", "fence", "fence  both", " fence both", "fence both ",
                    "fence plain", "fence\tboth", "Fence both", "fence both both", "read r x", "read r z taking",
                    "read 1 x taking", "read r x giving", "write x 10 plain", "write x 05 plain", "write x -1 plain",
                    "write x +1 plain", "write x 1.0 plain", "write x '1' plain", "write x  plain",
                    "write x True plain", "write z 1 plain", "skip r is 1 0", "skip r is 1 9", "skip r is 1",
                    "skip r is 1 r", "skip r be 1 1",
                    "claim r isnt r", "claim r isnt 01", "claim r isnt 0 0", "wait r x r plain", "swap r x r 1 both",
                    "swap r x 0 1 plain", "grab r x 0 1 plain", "change r x sub 1 both", "change r x add 1 plain", "1",
                    "jump 1", "('fence', 'both')"]:
            self.refuse(START + row, 2)
            self.refuse(START + row + "\nhand\nNO", 2)
            self.refuse(START + "fence both\n" + row + "\nhand", 3)
            self.refuse(START + "fence both\nhand\nhand\n" + row, 5)

    def test_blanks_and_line_feeds_at_the_ends(self):
        self.refuse("\n" + LONG_TEXT, 0)
        self.refuse(" " + LONG_TEXT, 0)
        self.refuse(LONG_TEXT + "\n", 21)
        self.refuse(LONG_TEXT + " ", 20)
        self.refuse("boxes x\n", 1)
        self.refuse("boxes x\nhand\n", 2)
        self.refuse("boxes x\nhand\n\nhand", 2)
        self.refuse("boxes x\r\nhand", 0)
        self.refuse("boxes x; hand", 0)

    def test_too_many_hands(self):
        self.refuse("boxes x" + "\nhand" * 5, 5)
        self.refuse("boxes x" + "\nhand" * 6, 5)
        self.refuse("boxes x\nhand\nfence both\nhand\nhand\nhand\nfence both\nhand\nNO", 7)

    def test_too_many_deeds_of_a_hand(self):
        eight = "\nhand" + "\nfence both" * 8
        self.assertEqual(read("boxes x" + eight), (["x"], hands_of(8)))
        self.refuse("boxes x" + eight + "\nfence both", 10)
        self.refuse("boxes x\nhand" + eight + "\nfence both\nNO", 11)

    def test_too_many_deeds_together(self):
        eight = "\nhand" + "\nfence both" * 8
        four = "\nhand" + "\nfence both" * 4
        self.assertEqual(read("boxes x" + eight + eight + "\nhand\nhand"), (["x"], hands_of(8, 8, 0, 0)))
        self.refuse("boxes x" + eight + eight + "\nhand\nfence both", 20)
        self.refuse("boxes x" + eight + eight + "\nhand\nhand\nfence both", 21)
        self.assertEqual(read("boxes x" + four * 4), (["x"], hands_of(4, 4, 4, 4)))
        self.refuse("boxes x" + four * 4 + "\nfence both", 21)

    def test_each_beginning_of_a_text(self):
        rows = LONG_TEXT.split("\n")
        self.refuse(rows[0], 1)
        for many in range(2, len(rows) + 1):
            text = "\n".join(rows[:many])
            self.assertEqual(shown(read(text)), text)
            self.refuse(text + "\nNO", many)

    def test_names(self):
        self.assertEqual(read(text="boxes x\nhand"), (["x"], [[]]))


if __name__ == "__main__":
    unittest.main()
