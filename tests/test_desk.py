"""Promises 12.1 to 12.3, and what 0.2 says of them."""

import unittest

from readsfrom.claims import ledger_of
from readsfrom.desk import Desk
from readsfrom.errors import Bare, NoName, NoPicks, NoRow, NoRun, NoStep, NoText, TooMany
from readsfrom.goer import count_of
from readsfrom.graphtexts import shown_graph
from readsfrom.machine import Machine
from readsfrom.programtexts import read, shown
from readsfrom.stronger import by_picks
from readsfrom.turns import outcomes, turn_outcomes
from tests.small import CROSSWISE, KEPT_OUT, PLAIN, SENT, SENT_AND_WAITED_FOR, WAITING_TOO_LATE, WRITING
from tests.things import STRANGE, long_program

SEVEN = "boxes x\nhand\n" + "\n".join(["write x 1 plain"] * 7)

REFUSALS = (NoRow, NoName, Bare, NoText, NoPicks, NoStep, NoRun, TooMany)


def in_one_row(text):
    return "; ".join(text.split("\n"))


class DeskCase(unittest.TestCase):
    def setUp(self):
        self.desk = Desk()

    def ok(self, *rows):
        for row in rows:
            self.assertEqual(self.desk.say(row), "ok", row)

    def put(self, name, text):
        self.ok(f"program {name} {in_one_row(text)}")

    def refuses(self, row, refusal, /, **fields):
        """Check that the row is refused, and that nothing is changed by it."""
        stood = self.stands()
        with self.assertRaises(refusal) as caught:
            self.desk.say(row)
        self.assertIs(type(caught.exception), refusal)
        self.assertEqual(vars(caught.exception), fields, row)
        self.assertEqual(self.stands(), stood)

    def stands(self):
        names = self.desk.say("names")
        told = [names, len(self.desk), self.desk.book()]
        if names != "-":
            told += [self.desk.say("show " + name) for name in names.split(" ")]
        try:
            return told + [self.desk.say(row) for row in ("steps", "now", "drawn")]
        except Bare:
            return told


class ProgramRowsTest(DeskCase):
    def test_programs_are_kept_shown_and_dropped(self):
        self.assertEqual((self.desk.say("names"), len(self.desk)), ("-", 0))
        self.put("one", PLAIN[0])
        self.put("b", shown(long_program()))
        self.assertEqual((self.desk.say("names"), len(self.desk)), ("b one", 2))
        self.assertEqual(self.desk.say("show one"), "boxes x; hand")
        self.assertEqual(self.desk.say("show b"), in_one_row(shown(long_program())))
        self.put("one", CROSSWISE.format("plain", "plain"))
        self.assertEqual((self.desk.say("names"), len(self.desk)), ("b one", 2))
        self.assertEqual(self.desk.say("show one"), in_one_row(CROSSWISE.format("plain", "plain")))
        self.ok("drop b")
        self.assertEqual((self.desk.say("names"), len(self.desk)), ("one", 1))
        self.refuses("drop b", NoName, name="b")
        self.refuses("show b", NoName, name="b")
        self.ok("drop one")
        self.assertEqual((self.desk.say("names"), len(self.desk)), ("-", 0))

    def test_texts_that_write_no_program(self):
        for text, row in [
            ("", 0), (" ", 0), (" boxes x; hand", 0), ("boxes x; hand ", 1), ("boxes x; hand; ", 2), ("boxes x", 1),
            ("boxes x;hand", 0), ("boxes x;  hand", 1), ("boxes x; hand; read r x both", 2), ("boxes x ; hand", 0),
            ("boxes x; ", 1), ("boxes x; hand;", 1), ("-", 0), ("boxes x; hand; hand; hand; hand; hand", 5), (";", 0),
            ("; boxes x; hand", 0),
        ]:
            self.refuses("program a " + text, NoText, row=row)
        self.put("a", PLAIN[0])
        self.refuses("program a ", NoText, row=0)
        self.refuses("program a boxes x", NoText, row=1)
        self.assertEqual(self.desk.say("show a"), "boxes x; hand")

    def test_a_row_without_a_text_is_none(self):
        self.refuses("program a", NoRow)
        self.refuses("program a ", NoText, row=0)
        self.refuses("program", NoRow)
        self.refuses("program ", NoRow)
        self.refuses("program  boxes x; hand", NoRow)
        self.refuses("program  a boxes x; hand", NoRow)
        self.refuses("program A boxes x; hand", NoRow)
        self.refuses("program abcdefg boxes x; hand", NoRow)
        self.refuses("program a1 boxes x; hand", NoRow)
        self.refuses("program a\tboxes x; hand", NoRow)
        self.refuses("program a boxes x\nhand", NoRow)
        self.ok("program abcdef boxes x; hand")

    def test_counts(self):
        for name, text in [("a", CROSSWISE.format("plain", "plain")), ("b", WAITING_TOO_LATE), ("c", PLAIN[0]),
                           ("d", SENT.format("giving", "plain")), ("e", KEPT_OUT.format("giving", "taking"))]:
            self.put(name, text)
            program = read(text)
            self.assertEqual(self.desk.say("count " + name), str(count_of(program)))
            self.assertEqual(self.desk.say("outcomes " + name), str(len(outcomes(program))))
            self.assertEqual(self.desk.say("turns " + name), str(len(turn_outcomes(program))))
            word, told = ledger_of(program)
            self.assertEqual(self.desk.say("ledger " + name), f"{word} {told if word == 'holds' else len(told)}")
        self.assertEqual([self.desk.say(row) for row in ("count a", "outcomes a", "turns a")], ["4", "4", "3"])
        self.assertEqual([self.desk.say(row) for row in ("count b", "outcomes b", "turns b")], ["1", "1", "2"])
        self.assertEqual([self.desk.say("ledger " + name) for name in "acd"], ["holds 4", "holds 1", "fails 4"])
        self.assertEqual([self.desk.say("clash " + name) for name in "abce"], ["yes", "yes", "no", "no"])

    def test_picks(self):
        self.put("none", PLAIN[0])
        self.assertEqual(self.desk.say("picks none"), "-")
        self.put("one", SENT.format("giving", "plain"))
        self.assertEqual(self.desk.say("picks one"), "1.0")
        self.put("two", SENT_AND_WAITED_FOR.format("plain", "plain"))
        self.assertEqual(self.desk.say("picks two"), "0.1 1.0")
        self.put("no", "boxes x\nhand\nread r x plain\nclaim r is 1")
        self.assertEqual(self.desk.say("picks no"), "none")
        self.put("seven", SEVEN)
        self.refuses("picks seven", TooMany, many=6)
        self.refuses("picks eight", NoName, name="eight")

    def test_stronger(self):
        text = SENT.format("plain", "plain")
        self.put("a", text)
        self.ok("stronger a b 0.1 1.0")
        self.assertEqual(self.desk.say("show b"), in_one_row(shown(by_picks(read(text), [(0, 1), (1, 0)]))))
        self.assertEqual(self.desk.say("show a"), in_one_row(text))
        self.ok("stronger a c")
        self.assertEqual(self.desk.say("show c"), in_one_row(text))
        self.ok("stronger b b 0.0")
        self.assertEqual(self.desk.say("names"), "a b c")
        self.assertEqual(self.desk.say("show b"),
                         in_one_row(shown(by_picks(read(text), [(0, 0), (0, 1), (1, 0)]))))
        for row in ["stronger a d 1.0 0.1", "stronger a d 0.1 0.1", "stronger a d 1.1", "stronger a d 3.7",
                    "stronger b d 1.0", "stronger a b 0.7"]:
            self.refuses(row, NoPicks)
        for row in ["stronger a", "stronger a ", "stronger a d ", "stronger a d 4.0", "stronger a d 0.8", "stronger a d 00.1",
                    "stronger a d 0.1  1.0", "stronger a d 0.1 ", "stronger a D 0.1", "stronger a d 0.-", "stronger a d 01",
                    "stronger a d 0.01", "stronger a d -", "stronger a d (0,1)", "stronger", "stronger a 0.1",
                    "stronger A d", "stronger a d 0.1.", "stronger a d .1", "stronger a d 0."]:
            self.refuses(row, NoRow)
        self.refuses("stronger z d 9.9", NoRow)
        self.refuses("stronger z d 3.7", NoName, name="z")
        self.refuses("stronger z a", NoName, name="z")

    def test_a_ninth_name(self):
        for name in "abcdefgh":
            self.put(name, PLAIN[0])
        self.assertEqual(len(self.desk), 8)
        self.refuses("program i boxes x; hand", TooMany, many=8)
        self.refuses("program i boxes x", NoText, row=1)
        self.refuses("stronger a i", TooMany, many=8)
        self.refuses("stronger a i 0.0", NoPicks)
        self.refuses("stronger i j 0.0", NoName, name="i")
        # An elder one's place is taken anew.
        self.put("h", CROSSWISE.format("plain", "plain"))
        self.ok("stronger h a 0.0")
        self.assertEqual(self.desk.say("names"), "a b c d e f g h")
        self.ok("drop c", "program i boxes y; hand")
        self.refuses("program c boxes x; hand", TooMany, many=8)
        self.assertEqual(self.desk.say("names"), "a b d e f g h i")
        self.assertEqual(len(self.desk), 8)

    def test_more_graphs_than_are_counted(self):
        self.put("big", WRITING)
        self.refuses("count big", TooMany, many=100000)

    def test_rows_that_are_none(self):
        self.put("a", PLAIN[0])
        self.ok("begin a")
        for thing in [*STRANGE, 0, [], ["names"], ("names",), b"names", {}]:
            self.refuses(thing, NoRow)
        for row in ["", " ", "names ", " names", "names a", "Names", "name", "show", "show ", "show a a", "show  a", "show A",
                    "show a ", "show abcdefg", "show a\n", "names\n", "\nnames", "count", "count a b", "outcomes", "turns",
                    "clash", "ledger", "picks", "drop", "drop a b", "drop -", "begin", "begin a a", "begin ", "steps a",
                    "steps ", "back 1", "back ", "now ", "drawn ", "now a", "drawn a", "book", "log", "run", "hand",
                    "boxes x; hand", "say names", "together", "play ", "step", "step ", "ok", "-", "open", "shut",
                    "count a\nnames", "show 1", "clash -"]:
            self.refuses(row, NoRow)

    def test_unknown_names(self):
        self.put("a", PLAIN[0])
        for word in ("drop", "show", "count", "outcomes", "turns", "clash", "ledger", "picks", "begin"):
            self.refuses(word + " b", NoName, name="b")
            self.refuses(word + " names", NoName, name="names")


class MachineRowsTest(DeskCase):
    def test_where_none_is_begun(self):
        for row in ("steps", "step 0.0", "step 3.-", "back", "play", "play 0.0", "now", "drawn"):
            self.refuses(row, Bare)
        self.put("a", PLAIN[0])
        self.refuses("step 0.1", Bare)
        for row in ("step 4.0", "step 0.01", "play 0", "steps -", "back -"):
            self.refuses(row, NoRow)

    def test_goes_by_steps(self):
        text = CROSSWISE.format("plain", "plain")
        self.put("a", text)
        self.ok("begin a")
        machine = Machine(read(text))
        self.assertEqual([self.desk.say(row) for row in ("steps", "now")], ["0.1 1.1", "going going"])
        self.assertEqual(self.desk.say("drawn"), "hand; hand; row x; row y")
        for row, step in [("step 0.1", (0, 1)), ("step 0.0", (0, 0)), ("play 1.1 1.0", (1, 1))]:
            self.ok(row)
            machine.step(step[0], where=step[1])
        machine.step(1, where=0)
        self.assertEqual([self.desk.say(row) for row in ("steps", "now")], ["-", "through through"])
        self.assertEqual(self.desk.say("drawn"), in_one_row(shown_graph(read(text), machine.graph())))
        self.refuses("step 1.0", NoStep, hand=1)
        self.ok("back", "back")
        self.assertEqual(self.desk.say("steps"), "1.1")
        self.ok("step 1.1", "step 1.1")
        self.assertEqual(self.desk.say("drawn").split("; ")[3:6], ["hand", "write y plain 1", "read x plain 1 0.0"])
        self.ok("back", "back", "back", "back")
        self.refuses("back", Bare)

    def test_fences_failed_hands_and_stuck_ones(self):
        self.put("a", "boxes x\nhand\nfence both\nclaim r is 1\nhand\nwait r x 3 plain\nhand\nread r x plain")
        self.ok("begin a")
        self.assertEqual(self.desk.say("steps"), "0.- 2.0")
        self.refuses("step 0.0", NoStep, hand=0)
        self.refuses("step 2.-", NoStep, hand=2)
        self.ok("step 0.-", "play 2.0")
        self.assertEqual(self.desk.say("now"), "failed going through")
        self.assertEqual(self.desk.say("steps"), "-")
        self.assertEqual(self.desk.say("drawn"), "hand; fence both; hand; hand; read x plain 0 start; row x")

    def test_play(self):
        self.put("a", CROSSWISE.format("plain", "plain"))
        self.ok("begin a", "play", "play 0.1", "play")
        self.refuses("play 0.0 0.0", NoRun, number=1)
        self.refuses("play 1.1 1.1 0.1 1.0", NoRun, number=3)
        self.refuses("play 3.0", NoRun, number=0)
        self.refuses("play 1.- 0.0", NoRun, number=0)
        self.assertEqual(self.desk.say("drawn"), "hand; write x plain 1; hand; row x 0.0; row y")
        self.ok("play 1.1 0.1 1.0")
        self.assertEqual(self.desk.say("now"), "through through")

    def test_how_steps_are_written(self):
        text = "boxes x\n" + "\n".join(["hand"] + ["write x 1 plain"] * 8) + "\nhand\n" + "\n".join(["write x 2 plain"] * 4)
        self.put("a", text)
        self.ok("begin a", "play 0.1 0.2 0.3 0.4 0.5 0.6 0.7 0.8", "step 1.9", "step 1.10")
        self.assertEqual(self.desk.say("steps"), "1.11")
        for row in ["step 1.011", "step 01.11", "step 1.+11", "step 1.1 1", "step 1.", "step .11", "step 1.011", "step 1.111",
                    "step 1.00", "step 1.01", "step 4.11", "step 1.--", "step -.11", "step 1.-1", "step 1.1.1", "step 111",
                    "step 1.1a", "step 1.11 ", "step 1.11 0.1", "step  1.11", "step 1.None", "step 1. 11", "step 1.1_1",
                    "play 1.011", "play  1.11", "play 1.11 ", "play 1.11  1.12", "play 1.11 9", "step x.1", "step 1-11",
                    "step 1.11; 1.12", "step (1,11)", "step 5.-"]:
            self.refuses(row, NoRow)
        self.refuses("step 1.99", NoStep, hand=1)
        self.refuses("step 1.0", NoStep, hand=1)
        self.refuses("step 3.11", NoStep, hand=3)
        self.refuses("step 2.-", NoStep, hand=2)
        self.ok("step 1.11")

    def test_goes_on_by_its_copy(self):
        text = CROSSWISE.format("plain", "plain")
        for row in ("drop a", "program a boxes z; hand; hand; hand", "stronger a a 0.0 1.0"):
            self.desk = Desk()
            self.put("a", text)
            self.ok("begin a", "step 0.1", row)
            self.assertEqual(self.desk.say("steps"), "0.0 1.1")
            self.assertEqual(self.desk.say("drawn"), "hand; write x plain 1; hand; row x 0.0; row y")
            self.ok("play 1.1 1.0 0.1", "back")
            self.assertEqual(self.desk.say("now"), "going through")

    def test_begun_anew(self):
        self.put("a", CROSSWISE.format("plain", "plain"))
        self.put("b", "boxes b\nhand\nwrite b 1 plain")
        self.ok("begin a", "step 0.1", "begin a")
        self.assertEqual(self.desk.say("drawn"), "hand; hand; row x; row y")
        self.ok("step 0.1")
        self.refuses("begin c", NoName, name="c")
        self.ok("begin b")
        self.assertEqual([self.desk.say(row) for row in ("steps", "now", "drawn")], ["0.1", "going", "hand; row b"])
        self.ok("drop b", "step 0.1")
        self.refuses("begin b", NoName, name="b")
        self.assertEqual(self.desk.say("drawn"), "hand; write b plain 1; row b 0.0")

    def test_two_desks(self):
        other = Desk()
        self.put("a", PLAIN[0])
        self.ok("begin a")
        self.assertEqual((len(other), other.say("names")), (0, "-"))
        with self.assertRaises(Bare):
            other.say("now")


class TogetherTest(DeskCase):
    def refuses_together(self, rows, refusal, /, **fields):
        stood = self.stands()
        book = self.desk.book()
        with self.assertRaises(refusal) as caught:
            self.desk.together(rows)
        self.assertIs(type(caught.exception), refusal)
        self.assertEqual(vars(caught.exception), fields)
        self.assertEqual(self.desk.book(), book + ["open", "shut"])
        now = self.stands()
        self.assertEqual(now[:2] + now[3:], stood[:2] + stood[3:])

    def test_answers(self):
        text = in_one_row(CROSSWISE.format("plain", "plain"))
        rows = ["names", "program a " + text, "begin a", "step 0.1", "steps", "count a", "names", "drop a", "now"]
        self.assertEqual(self.desk.together(rows), ["-", "ok", "ok", "ok", "0.0 1.1", "4", "a", "ok", "going going"])
        self.assertEqual((len(self.desk), self.desk.say("steps")), (0, "0.0 1.1"))
        self.assertEqual(self.desk.together([]), [])
        self.assertEqual(self.desk.book(), ["open", "shut"] * 2)

    def test_one_refused_at_each_place(self):
        text = in_one_row(CROSSWISE.format("plain", "plain"))
        self.desk.together(["program a " + text, "program b boxes b; hand; fence both", "begin a", "play 0.1 1.1"])
        rows = ["step 0.0", "program c boxes x; hand", "stronger a d 0.0", "drop b", "play 1.0", "back", "back", "begin c",
                "program a boxes z; hand", "begin d", "step 0.1", "drop a", "drop c"]
        for row, refusal, fields in [("nothing", NoRow, {}), (None, NoRow, {}), ("drop zz", NoName, {"name": "zz"}),
                                     ("program a ", NoText, {"row": 0}), ("step 3.0", NoStep, {"hand": 3}),
                                     ("play 3.-", NoRun, {"number": 0})]:
            for at in range(len(rows) + 1):
                self.refuses_together([*rows[:at], row, *rows[at:]], refusal, **fields)
        self.assertEqual(len(self.desk.together(rows)), len(rows))
        self.assertEqual(self.desk.say("names"), "d")

    def test_where_no_machine_was_begun(self):
        self.refuses_together(["program a boxes x; hand", "begin a", "now", "back"], Bare)
        self.refuses("now", Bare)
        self.refuses_together(["program a boxes x; hand", "begin a", "drop b"], NoName, name="b")
        self.refuses("steps", Bare)
        self.assertEqual(len(self.desk), 0)

    def test_the_first_refusal_is_told(self):
        self.refuses_together(["names", "show a", "steps", None], NoName, name="a")
        self.refuses_together(["names", "steps", "show a", None], Bare)
        self.refuses_together([[], "steps", "show a"], NoRow)

    def test_a_ninth_name(self):
        rows = [f"program {name} boxes x; hand" for name in "abcdefghi"]
        self.refuses_together(rows, TooMany, many=8)
        self.assertEqual(len(self.desk), 0)
        self.assertEqual(self.desk.together(rows[:8]), ["ok"] * 8)
        self.refuses_together(["drop a", "program z boxes x; hand", "stronger z y"], TooMany, many=8)
        self.assertEqual(self.desk.say("names"), "a b c d e f g h")

    def test_a_machine_goes_on_behind_a_refusal(self):
        self.put("a", CROSSWISE.format("plain", "plain"))
        self.ok("begin a", "step 1.1")
        self.refuses_together(["step 0.1", "back", "back", "back"], Bare)
        self.refuses_together(["step 0.1", "play 0.0 1.0 1.0"], NoRun, number=2)
        self.assertEqual(self.desk.say("drawn"), "hand; hand; write y plain 1; row x; row y 1.0")
        self.ok("play 0.1 0.1 1.0", "back", "step 1.1", "back", "back", "back", "back")
        self.refuses("back", Bare)

    def test_the_book(self):
        self.assertEqual(self.desk.book(), [])
        self.desk.say("names")
        self.refuses("nothing", NoRow)
        self.assertEqual(self.desk.book(), [])
        self.desk.together(["names"])
        with self.assertRaises(NoRow):
            self.desk.together(["names", ""])
        self.desk.together([])
        self.assertEqual(self.desk.book(), ["open", "shut"] * 3)
        self.desk.book().clear()
        self.desk.book().append("open")
        self.assertEqual(self.desk.book(), ["open", "shut"] * 3)

    def test_what_is_told_is_the_askers_own(self):
        rows = ["names", "program a boxes x; hand", "names"]
        told = self.desk.together(rows=rows)
        self.assertEqual((told, rows), (["-", "ok", "a"], ["names", "program a boxes x; hand", "names"]))
        told.clear()
        rows.clear()
        self.assertEqual(self.desk.say(row="names"), "a")
        self.assertEqual(self.desk.book(), ["open", "shut"])


if __name__ == "__main__":
    unittest.main()
