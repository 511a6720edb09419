"""Promise 5.1."""

import unittest

from readsfrom.machine import Machine
from readsfrom.programtexts import read
from tests.machines import PASSING, MachineCase


class StepsTest(MachineCase):
    def test_loose_reads_keep_and_plain_writes_give_nothing(self):
        for one, other in [("plain", "taking"), ("loose", "taking"), ("giving", "plain"), ("giving", "loose")]:
            text = PASSING.replace("giving", one).replace("taking", other)
            machine = self.done(text, (0, 1), (0, 1), (1, 1))
            self.assertEqual(machine.steps(), [(1, 0), (1, 1)])
            self.assertEqual(machine.view(1), {"x": 0, "y": 1})

    def test_fences(self):
        for fences, places in [
            (("giving", "taking"), [1]), (("both", "both"), [1]), (("giving", "both"), [1]), (("both", "taking"), [1]),
            (("taking", "taking"), [0, 1]), (("giving", "giving"), [0, 1]), (("taking", "giving"), [0, 1]),
        ]:
            text = ("boxes x y\nhand\nwrite x 1 plain\nfence {}\nwrite y 1 loose\nhand\nread r y plain\nfence {}\n"
                    "read s x plain").format(*fences)
            machine = Machine(read(text))
            machine.step(0, where=1)
            self.assertEqual(machine.steps(), [(0, None), (1, 0)])
            self.refuse(machine, 0, where=0)
            self.refuse(machine, 0, where=1)
            machine.step(0)
            machine.step(0, where=1)
            self.assertEqual(machine.steps(), [(1, 0), (1, 1)])
            machine.step(1, where=1)
            machine.step(1)
            self.assertEqual(machine.steps(), [(1, place) for place in places], fences)
            self.assertEqual(machine.run(), [(0, 1), (0, None), (0, 1), (1, 1), (1, None)])

    def test_a_fence_takes_ahead_of_giving(self):
        text = ("boxes x y z\nhand\nwrite x 1 plain\nwrite y 1 giving\nhand\nread r y loose\nfence {}\n"
                "write z 1 plain\nhand\nread r z taking\nread s x plain")
        for mode, places in [("both", [1]), ("giving", [0, 1]), ("taking", [0, 1])]:
            machine = self.done(text.format(mode), (0, 1), (0, 1), (1, 1), (1, None), (1, 1), (2, 1))
            self.assertEqual(machine.steps(), [(2, place) for place in places])

    def test_no_read_takes_and_no_write_gives_as_a_fence_does(self):
        text = ("boxes x y z\nhand\nwrite x 1 plain\nwrite y 1 giving\nwrite z 1 {}\nhand\nread r {}\nread r {}\n"
                "read s x plain")
        for mode, one, two, places in [
            ("plain", "y loose", "z taking", (1, 1)), ("plain", "y loose", "z taking", (1, 0)),
            ("plain", "z taking", "y loose", (1, 1)), ("loose", "z taking", "z taking", (0, 1)),
        ]:
            machine = self.done(text.format(mode, one, two), (0, 1), (0, 1), (0, 1), (1, places[0]), (1, places[1]))
            self.assertEqual(machine.steps(), [(1, 0), (1, 1)])
        for word in ["change r z put 1", "swap r z 0 1", "grab r z 0 1"]:
            changed = text.replace("write z 1", word).format("taking", "z taking", "z taking")
            machine = self.done(changed, (0, 1), (0, 1), (0, 0), (1, 1), (1, 1))
            self.assertEqual(machine.steps(), [(1, 0), (1, 1)])

    def test_a_giving_fence_gives_what_was_seen_ahead_of_it_alone(self):
        text = ("boxes x y\nhand\nfence giving\nwrite x 1 plain\nwrite y 1 loose\nhand\nread r y taking\n"
                "read s x plain")
        machine = self.done(text, (0, None), (0, 1), (0, 1), (1, 1))
        self.assertEqual(machine.steps(), [(1, 0), (1, 1)])

    def test_a_taking_fence_takes_what_was_kept_ahead_of_it_alone(self):
        text = ("boxes x y\nhand\nwrite x 1 plain\nwrite y 1 giving\nhand\nfence both\nread r y loose\n"
                "read s x plain\nfence taking\nread s x plain")
        machine = self.done(text, (0, 1), (0, 1), (1, None), (1, 1))
        self.assertEqual(machine.steps(), [(1, 0), (1, 1)])
        machine.step(1, where=0)
        self.assertEqual(machine.view(1), {"x": 0, "y": 1})
        machine.step(1)
        self.assertEqual(machine.view(1), {"x": 1, "y": 1})
        self.assertEqual(machine.steps(), [(1, 1)])

    def test_reads_from_the_told_place_on(self):
        text = "boxes x\nhand\nwrite x 1 plain\nwrite x 2 plain\nwrite x 3 plain\nhand\nread r x plain\nread r x plain"
        machine = self.done(text, (0, 1), (0, 2), (0, 3))
        self.assertEqual(machine.steps(), [(1, 0), (1, 1), (1, 2), (1, 3)])
        machine.step(1, where=2)
        self.assertEqual(machine.steps(), [(1, 2), (1, 3)])
        self.refuse(machine, 1, where=1)
        self.refuse(machine, 1, where=4)
        machine.step(1, where=2)
        self.assertEqual(machine.graph().lines()[1], [("read", "x", "plain", 2, (0, 1))] * 2)

    def test_writes_behind_the_told_place(self):
        text = "boxes x\nhand\nwrite x 1 plain\nwrite x 2 plain\nhand\nread r x plain\nwrite x 3 plain\nwrite x 4 plain"
        machine = self.done(text, (0, 1), (0, 2), (1, 1))
        self.assertEqual(machine.steps(), [(1, 2), (1, 3)])
        machine.step(1, where=2)
        self.assertEqual(machine.view(1), {"x": 2})
        self.assertEqual(machine.view(0), {"x": 3})
        self.assertEqual(machine.graph().rows(), [[(0, 0), (1, 1), (0, 1)]])
        self.assertEqual(machine.steps(), [(1, 3), (1, 4)])
        self.refuse(machine, 1, where=2)
        self.refuse(machine, 1, where=5)

    def test_places_move_on(self):
        text = ("boxes x\nhand\nwrite x 1 giving\nread r x plain\nhand\nread r x taking\nwrite x 2 plain\nhand\n"
                "write x 3 plain\nhand\nread r x plain")
        machine = self.done(text, (0, 1), (1, 1))
        self.assertEqual([machine.view(hand)["x"] for hand in range(4)], [1, 1, 0, 0])
        machine.step(2, where=1)
        self.assertEqual([machine.view(hand)["x"] for hand in range(4)], [2, 2, 1, 0])
        self.assertEqual(machine.graph().rows(), [[(2, 0), (0, 0)]])
        self.assertEqual(machine.steps(), [(0, 2), (1, 3), (3, 0), (3, 1), (3, 2)])
        machine.step(3, where=1)
        machine.step(1, where=3)
        self.assertEqual([machine.view(hand)["x"] for hand in range(4)], [2, 3, 1, 1])
        self.assertEqual(machine.graph().lines()[3], [("read", "x", "plain", 3, (2, 0))])

    def test_places_in_views_of_messages_move_on(self):
        text = ("boxes x y\nhand\nwrite x 1 plain\nwrite y 1 giving\nhand\nwrite x 2 plain\nhand\nread r y taking\n"
                "read r x plain\nhand\nread r y loose\nfence both\nread r x plain")
        machine = self.done(text, (0, 1), (0, 1), (3, 1), (1, 1), (2, 1))
        self.assertEqual(machine.view(2), {"x": 2, "y": 1})
        self.assertEqual(machine.steps(), [(2, 2), (3, None)])
        machine.step(3)
        self.assertEqual(machine.view(3), {"x": 2, "y": 1})
        self.assertEqual(machine.steps(), [(2, 2), (3, 2)])

    def test_places_in_given_views_move_on(self):
        text = ("boxes x y\nhand\nwrite x 1 plain\nfence giving\nwrite y 1 plain\nhand\nwrite x 2 plain\nhand\n"
                "read r y taking\nread r x plain")
        machine = self.done(text, (0, 1), (0, None), (1, 1), (0, 1), (2, 1))
        self.assertEqual(machine.view(2), {"x": 2, "y": 1})

    def test_nothing_is_written_right_behind_what_a_change_read(self):
        text = "boxes x\nhand\nwrite x 1 plain\nhand\nchange r x add 1 loose\nhand\nwrite x 5 plain"
        machine = self.done(text, (0, 1), (1, 1))
        self.assertEqual(machine.graph().rows(), [[(0, 0), (1, 0)]])
        self.assertEqual(machine.steps(), [(2, 1), (2, 3)])
        self.refuse(machine, 2, where=2)
        machine.step(2, where=1)
        self.assertEqual(machine.graph().rows(), [[(2, 0), (0, 0), (1, 0)]])
        machine = self.done(text, (1, 0))
        self.assertEqual(machine.steps(), [(0, 2), (2, 2)])
        self.refuse(machine, 0, where=1)
        machine.step(0, where=2)
        self.assertEqual(machine.steps(), [(2, 2), (2, 3)])

    def test_no_change_reads_what_a_change_read(self):
        text = ("boxes x\nhand\nwrite x 1 plain\nhand\nchange r x add 1 loose\nhand\nchange r x put 3 both\nhand\n"
                "read r x loose")
        machine = self.done(text, (0, 1), (1, 1))
        self.assertEqual(machine.steps(), [(2, 0), (2, 2), (3, 0), (3, 1), (3, 2)])
        self.refuse(machine, 2, where=1)
        machine.step(2, where=0)
        self.assertEqual(machine.graph().rows(), [[(2, 0), (0, 0), (1, 0)]])
        self.assertEqual(machine.graph().lines()[2], [("change", "x", "both", 0, 3, None)])
        self.assertEqual(machine.graph().lines()[1], [("change", "x", "loose", 1, 2, (0, 0))])
        self.assertEqual(machine.view(2), {"x": 1})

    def test_swaps_and_grabs_where_a_change_read(self):
        text = "boxes x\nhand\nchange r x add 1 loose\nhand\nswap r x {} 3 both\nhand\ngrab r x {} 3 both"
        machine = self.done(text.format(0, 0), (0, 0))
        self.assertEqual(machine.steps(), [(1, 1)])
        machine.step(1, where=1)
        self.assertEqual(machine.graph().lines()[1], [("read", "x", "taking", 1, (0, 0))])
        machine = self.done(text.format(1, 1), (0, 0))
        self.assertEqual(machine.steps(), [(1, 0), (1, 1), (2, 1)])
        machine.step(1, where=0)
        self.assertEqual(machine.graph().lines()[1], [("read", "x", "taking", 0, None)])
        machine.step(2, where=1)
        self.assertEqual(machine.graph().lines()[2], [("change", "x", "both", 1, 3, (0, 0))])
        self.assertIs(machine.is_over(), True)

    def test_changes_give_along_what_they_read(self):
        text = ("boxes x y\nhand\nwrite x 1 plain\nwrite y 1 giving\nhand\nchange r y add 1 {}\nread r x plain\nhand\n"
                "read r y taking\nread s x plain")
        for mode, own in [("loose", [0, 1]), ("giving", [0, 1]), ("taking", [1]), ("both", [1])]:
            machine = self.done(text.format(mode), (0, 1), (0, 1), (1, 1), (2, 2))
            self.assertEqual(machine.steps(), [(1, place) for place in own] + [(2, 1)])
            self.assertEqual(machine.view(1), {"x": own[0], "y": 2})

    def test_changes_give_by_their_mode(self):
        text = "boxes x y\nhand\nwrite x 1 plain\nchange r y add 1 {}\nhand\nread r y taking\nread s x plain"
        for mode, places in [("loose", [0, 1]), ("giving", [1]), ("taking", [0, 1]), ("both", [1])]:
            for word in ["change r y add 1", "swap r y 0 1", "grab r y 0 1"]:
                machine = self.done(text.replace("change r y add 1", word).format(mode), (0, 1), (0, 0), (1, 1))
                self.assertEqual(machine.steps(), [(1, place) for place in places])

    def test_swaps_take_by_their_mode_also_where_they_do_not_write(self):
        text = "boxes x y\nhand\nwrite x 1 plain\nwrite y 1 giving\nhand\nswap r y 5 1 {}\nread s x plain"
        for mode, places in [("loose", [0, 1]), ("giving", [0, 1]), ("taking", [1]), ("both", [1])]:
            machine = self.done(text.format(mode), (0, 1), (0, 1), (1, 1))
            self.assertEqual(machine.steps(), [(1, place) for place in places])

    def test_waits_whose_number_is_not_there(self):
        text = ("boxes x\nhand\nwait r x 2 taking\nhand\nwrite x 1 plain\nwrite x 2 plain\nwrite x 2 plain\nhand\n"
                "grab r x 3 0 loose")
        machine = self.done(text)
        self.assertEqual(machine.steps(), [(1, 1)])
        self.refuse(machine, 0, where=0)
        machine.step(1, where=1)
        self.assertEqual(machine.steps(), [(1, 2)])
        machine.step(1, where=2)
        self.assertEqual(machine.steps(), [(0, 2), (1, 3)])
        machine.step(1, where=3)
        self.assertEqual(machine.steps(), [(0, 2), (0, 3)])
        machine.step(0, where=3)
        self.assertIs(machine.is_over(), True)
        self.assertEqual(machine.state(2), ("going", 0, [("r", 0)]))
        self.assertEqual(machine.state(0), ("through", 1, [("r", 2)]))

    def test_skips_and_claims_at_first_and_behind_each_step(self):
        text = ("boxes x\nhand\nskip r is 0 1\nfence both\nread r x plain\nskip r is 1 1\nclaim r is 1\n"
                "skip r isnt 0 8\nfence giving\nhand\nclaim q isnt 0\nfence taking\nhand\nwrite x 1 plain\n"
                "claim q is 0")
        machine = self.done(text)
        self.assertEqual(machine.steps(), [(0, 0), (2, 1)])
        self.assertEqual(machine.state(0), ("going", 2, [("r", 0)]))
        self.assertEqual(machine.state(1), ("failed", 0, [("q", 0)]))
        machine.step(2, where=1)
        self.assertEqual(machine.state(2), ("through", 2, [("q", 0)]))
        machine.step(0, where=1)
        self.assertEqual(machine.state(0), ("through", 7, [("r", 1)]))
        self.assertIs(machine.is_over(), True)
        machine = self.done(text, (0, 0))
        self.assertEqual(machine.state(0), ("failed", 4, [("r", 0)]))
        self.assertEqual(machine.steps(), [(2, 1)])
        self.refuse(machine, 0)
        self.refuse(machine, 1)

    def test_registers_stand_for_numbers(self):
        text = ("boxes x y\nhand\nwrite x 4 plain\nchange r x add 9 loose\nwrite y r plain\nchange r y add r both\n"
                "swap r x 3 r loose\nread s x plain")
        machine = self.done(text, (0, 1), (0, 1), (0, 1), (0, 1), (0, 2), (0, 3))
        self.assertEqual(machine.graph().lines(), [[
            ("write", "x", "plain", 4), ("change", "x", "loose", 4, 3, (0, 0)), ("write", "y", "plain", 4),
            ("change", "y", "both", 4, 8, (0, 2)), ("change", "x", "loose", 3, 4, (0, 1)),
            ("read", "x", "plain", 4, (0, 4))]])
        self.assertEqual(machine.state(0), ("through", 6, [("r", 3), ("s", 4)]))

    def test_places_of_two_figures(self):
        writes = "\n".join(["write x 1 plain"] * 8)
        machine = Machine(read(f"boxes x\nhand\n{writes}\nhand\n{writes}"))
        for place in range(1, 9):
            machine.step(0, where=place)
        for place in range(9, 17):
            self.assertEqual(machine.steps()[-1], (1, place))
            machine.step(1, where=place)
        self.assertEqual(machine.run()[-1], (1, 16))
        self.assertEqual(machine.view(1), {"x": 16})
        self.assertIs(machine.is_over(), True)
        machine.back()
        self.assertEqual(machine.steps(), [(1, 16)])
        self.refuse(machine, 1, where=17)


if __name__ == "__main__":
    unittest.main()
