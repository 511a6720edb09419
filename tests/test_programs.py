"""Promises 1.1 and 1.2, and what 0.2 says of them."""

import copy
import unittest

from readsfrom.errors import NoProgram
from readsfrom.programs import is_deed, look_at
from tests.things import ALL_MODES, DEED, LONG_TEXT, MODES, SORTS, STRANGE, hands_of, long_program, put

BOXES = ["x", "y"]
NAMES = ["r", "x", "y", "abcdef", "zzzzzz", "read", "is", "plain"]
BAD_NAMES = ["", "abcdefg", "R", "Rr", "rR", "r1", "1", "r ", " r", "r_", "a b", "r\n", "-", ["r"], ("r",), *STRANGE]
NO_NAMES = [*BAD_NAMES, 0, 1, 9]
NUMBERS = list(range(10))
BAD_NUMBERS = [-1, 10, 11, 10 ** 59, "0", "1", "9", "", [1], (1,), *STRANGE]
NO_NUMBERS = [*BAD_NUMBERS, "r", "x"]


class DeedTest(unittest.TestCase):
    def take(self, deed):
        self.assertIs(is_deed(BOXES, deed), True, deed)

    def refuse(self, deed):
        # Some things here can't be shown, so no message.
        self.assertIs(is_deed(BOXES, deed), False)

    def parts(self, sort, place, taken, refused):
        for part in taken:
            self.take(put(SORTS[sort], place, part))
        for part in refused:
            self.refuse(put(SORTS[sort], place, part))

    def test_each_sort(self):
        self.assertEqual(len(SORTS), 9)
        for deed in SORTS.values():
            self.take(deed)

    def test_other_sorts(self):
        for deed in SORTS.values():
            for word in ["", "Read", "reads", "jump", "r", 0, 1, [], ["read"], ("read",), *STRANGE]:
                self.refuse(put(deed, 0, word))
        for sort, deed in SORTS.items():
            for other in SORTS:
                if len(SORTS[other]) != len(deed):
                    self.refuse(put(deed, 0, other))

    def test_modes(self):
        for sort, modes in MODES.items():
            others = [mode for mode in ALL_MODES if mode not in modes]
            strange = ["", "Plain", "taking ", "none", "give", 0, 1, ["taking"], ("loose",), *STRANGE]
            self.parts(sort, len(SORTS[sort]) - 1, modes, others + strange)

    def test_registers(self):
        for sort in ["read", "change", "swap", "wait", "grab", "skip", "claim"]:
            self.parts(sort, 1, NAMES, NO_NAMES)

    def test_boxes(self):
        strange = ["z", "xy", "", "X", "r", 0, 1, ["x"], ("x",), *STRANGE]
        for sort in ["read", "change", "swap", "wait", "grab"]:
            self.parts(sort, 2, BOXES, strange)
        self.parts("write", 1, BOXES, strange)

    def test_boxes_are_those_handed_in(self):
        self.assertIs(is_deed(["a"], ("read", "x", "a", "plain")), True)
        self.assertIs(is_deed(["a"], ("read", "a", "x", "plain")), False)
        self.assertIs(is_deed(["a", "b", "c", "d"], ("read", "a", "d", "plain")), True)

    def test_what(self):
        for sort, place in [("write", 2), ("change", 4), ("swap", 4), ("grab", 4)]:
            self.parts(sort, place, NAMES + NUMBERS, BAD_NAMES + BAD_NUMBERS)

    def test_numbers(self):
        for sort, place in [("swap", 3), ("wait", 3), ("grab", 3), ("skip", 3), ("claim", 3)]:
            self.parts(sort, place, NUMBERS, NO_NUMBERS)

    def test_how(self):
        self.parts("change", 3, ["add", "put"], ["", "Add", "is", "sub", "both", 0, 1, ["add"], *STRANGE])

    def test_words(self):
        for sort in ["skip", "claim"]:
            self.parts(sort, 2, ["is", "isnt"], ["", "Is", "not", "add", 0, 1, ["is"], *STRANGE])

    def test_many(self):
        self.parts("skip", 4, range(1, 9), [0, 9, 10, -1, 10 ** 59, "1", "r", [1], *STRANGE])

    def test_one_more_and_one_fewer(self):
        for deed in SORTS.values():
            self.refuse(deed[:-1])
            self.refuse(deed[1:])
            for more in ["r", "x", 1, "both", None]:
                self.refuse(deed + (more,))

    def test_no_tuples(self):
        for deed in SORTS.values():
            self.refuse(list(deed))
            self.refuse((deed,))
            self.refuse(" ".join(map(str, deed)))
            self.refuse(dict(enumerate(deed)))
        for thing in [(), [], "", "read", 0, 1, *STRANGE]:
            self.refuse(thing)

    def test_names_and_nothing_changed(self):
        boxes = ["x", "y"]
        self.assertIs(is_deed(boxes=boxes, thing=DEED), True)
        self.assertEqual(boxes, ["x", "y"])


class LookTest(unittest.TestCase):
    def take(self, program):
        self.assertIsNone(look_at(program))

    def refuse(self, thing, part, hand, number):
        with self.assertRaises(NoProgram) as caught:
            look_at(thing)
        told = caught.exception
        self.assertEqual((told.part, told.hand, told.number), (part, hand, number))
        for value in (told.hand, told.number):
            self.assertNotIsInstance(value, bool)

    def test_programs(self):
        self.take((["x"], [[]]))
        self.take((["abcdef"], [[], [], [], []]))
        self.take((["a", "b", "c", "d"], hands_of(8, 8)))
        self.take((["x"], hands_of(8)))
        self.take((["x"], hands_of(8, 0, 7, 1)))
        self.take((["x"], hands_of(4, 4, 4, 4)))
        self.take((["x", "y"], [list(SORTS.values())[:8], list(SORTS.values())[8:]]))
        self.take(long_program())

    def test_no_tuple_of_two(self):
        boxes, hands = long_program()
        for thing in [[boxes, hands], (), (boxes,), (boxes, hands, None), (boxes, hands, hands), "ab", LONG_TEXT,
                      {0: boxes, 1: hands}, 0, 1, *STRANGE]:
            self.refuse(thing, "program", None, None)

    def test_no_list_of_boxes(self):
        for boxes in [[], ("x",), (), "x", "", ["a", "b", "c", "d", "e"], {"x": 1}, 0, *STRANGE]:
            self.refuse((boxes, [[]]), "boxes", None, None)

    def test_no_names_of_boxes(self):
        for name in NO_NAMES:
            self.refuse(([name], [[]]), "boxes", None, 0)
            self.refuse((["aa", name], [[]]), "boxes", None, 1)
            self.refuse((["aa", "ab", "ac", name], [[]]), "boxes", None, 3)
            self.refuse((["aa", name, "ac", "ab"], [[]]), "boxes", None, 1)

    def test_boxes_that_stood_ahead_or_do_not_rise(self):
        self.refuse((["x", "x"], [[]]), "boxes", None, 1)
        self.refuse((["y", "x"], [[]]), "boxes", None, 1)
        self.refuse((["a", "b", "a"], [[]]), "boxes", None, 2)
        self.refuse((["a", "c", "b"], [[]]), "boxes", None, 2)
        self.refuse((["a", "b", "c", "c"], [[]]), "boxes", None, 3)
        self.refuse((["ab", "a"], [[]]), "boxes", None, 1)
        self.refuse((["b", "aa"], [[]]), "boxes", None, 1)
        self.refuse((["b", "a", "B"], [[]]), "boxes", None, 1)
        self.refuse((["a", "b", "", "a"], [[]]), "boxes", None, 2)
        self.take((["a", "aa", "b", "ba"], [[]]))

    def test_no_list_of_hands(self):
        for hands in [[], (), ([],), [[], [], [], [], []], "x", {0: []}, 0, *STRANGE]:
            self.refuse((["x"], hands), "hands", None, None)

    def test_no_hands(self):
        for hand in [(), (DEED,), DEED, "", "x", {}, 0, [DEED] * 9, ["x"] * 9, *STRANGE]:
            self.refuse((["x"], [hand]), "hands", 0, None)
            self.refuse((["x"], [[DEED], hand]), "hands", 1, None)
            self.refuse((["x"], [[], [], [], hand]), "hands", 3, None)
            self.refuse((["x"], [[], hand, None, []]), "hands", 1, None)

    def test_no_deeds(self):
        boxes = ["x", "y"]
        for deed in SORTS.values():
            for wrong in [list(deed), deed + (1,), deed[:-1], put(deed, 0, "no"), put(deed, 1, "NO")]:
                self.refuse((boxes, [[wrong]]), "deeds", 0, 0)
                self.refuse((boxes, [[DEED], [DEED, DEED, wrong]]), "deeds", 1, 2)
                self.refuse((boxes, [[], [], [], [DEED] * 7 + [wrong]]), "deeds", 3, 7)
        for thing in ["", 0, (), [], *STRANGE]:
            self.refuse((boxes, [[DEED, thing], []]), "deeds", 0, 1)
        self.refuse((["x"], [[("read", "r", "y", "plain")]]), "deeds", 0, 0)

    def test_first_wrong_deed_hand_by_hand(self):
        self.refuse((["x"], [[DEED, DEED, None], [None]]), "deeds", 0, 2)
        self.refuse((["x"], [[DEED], [DEED, None, None], [None]]), "deeds", 1, 1)

    def test_more_than_sixteen(self):
        self.refuse((["x"], hands_of(8, 8, 1)), "deeds", None, None)
        self.refuse((["x"], hands_of(5, 4, 4, 4)), "deeds", None, None)
        self.refuse((["x"], hands_of(8, 8, 8, 8)), "deeds", None, None)

    def test_the_first_of_several_faults(self):
        many = hands_of(8, 8, 7) + [[DEED] * 7 + [None]]
        self.refuse(([], [], []), "program", None, None)
        self.refuse(((), ()), "boxes", None, None)
        self.refuse((["B"], None), "boxes", None, 0)
        self.refuse((["b", "a"], [None]), "boxes", None, 1)
        self.refuse((["b", "a"], many), "boxes", None, 1)
        self.refuse((["x", None, "a", "b", "c"], [[None]]), "boxes", None, None)
        self.refuse((["x"], [[None], None]), "hands", 1, None)
        self.refuse((["x"], [[None], [], [], [], []]), "hands", None, None)
        self.refuse((["x"], hands_of(8, 8) + [[None] * 9]), "hands", 2, None)
        self.refuse((["x"], many), "deeds", 3, 7)

    def test_lists_within_themselves(self):
        ring = []
        ring.append(ring)
        self.refuse(ring, "program", None, None)
        self.refuse((ring, ring), "boxes", None, 0)
        self.refuse((["x"], ring), "deeds", 0, 0)

    def test_names_and_nothing_changed(self):
        program = long_program()
        self.assertIsNone(look_at(thing=program))
        self.assertEqual(program, long_program())
        wrong = (["x"], [[DEED], [None, "x", [1]]])
        kept = copy.deepcopy(wrong)
        self.refuse(wrong, "deeds", 1, 0)
        self.assertEqual(wrong, kept)


if __name__ == "__main__":
    unittest.main()
