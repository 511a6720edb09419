"""The interface, and what 0.2, 0.4 and 1.2 say of the whole program."""

import copy
import importlib
import inspect
import unittest

from readsfrom.errors import NoProgram
from readsfrom.goer import first_graph
from readsfrom.graphs import Graph
from readsfrom.graphtexts import shown_graph
from readsfrom.programtexts import read
from readsfrom.runs import run_of
from readsfrom.stronger import paper_of
from tests.small import SENT
from tests.things import NO_PROGRAMS

# Of each file its functions, with their arguments, and its classes, with those of their methods.
FUNCTIONS = {
    "programs": {"look_at": "thing", "is_deed": "boxes, thing"},
    "programtexts": {"shown": "program", "read": "text"},
    "replaying": {"is_drawing": "program, thing", "state_of": "program, graph, hand"},
    "order": {"before": "program, graph"},
    "rules": {"breach": "program, graph", "is_graph": "program, thing"},
    "runs": {"is_run": "program, thing", "graph_of": "program, run", "run_of": "program, graph, *, by=None"},
    "outcomes": {"is_ended": "program, graph", "is_full": "program, graph", "outcome_of": "program, graph"},
    "goer": {"first_graph": "program", "next_graph": "program, graph", "count_of": "program, *, most=100000"},
    "turns": {"outcomes": "program", "turn_outcomes": "program"},
    "clashes": {"clashing": "program, graph", "clash_of": "program"},
    "claims": {"failing": "program", "ledger_of": "program", "is_ledger": "program, thing"},
    "stronger": {"picks_of": "program", "by_picks": "program, picks", "paper_of": "program", "is_paper": "program, thing"},
    "naming": {"called": "program, *, hands=None, boxes=None", "led": "program, graph, *, hands=None, boxes=None",
               "alike_hands": "program"},
    "graphtexts": {"shown_graph": "program, graph", "read_graph": "program, text"},
}
CLASSES = {
    "graphs": {"Graph": {"__init__": "lines, rows", "lines": "", "rows": "", "__len__": "", "__repr__": ""}},
    "machine": {"Machine": {"__init__": "program", "steps": "", "step": "hand, *, where=None", "play": "steps", "back": "",
                            "run": "", "log": "", "graph": "", "state": "hand", "view": "hand", "is_over": "", "twin": "",
                            "__len__": ""}},
    "goer": {"Goer": {"__init__": "program, *, alike=False", "go": "", "told": "", "held": ""}},
    "desk": {"Desk": {"__init__": "", "say": "row", "together": "rows", "book": "", "__len__": ""}},
}
REFUSALS = {
    "NoProgram": (ValueError, "part, hand, number"), "NoText": (ValueError, "row"), "NoGraph": (ValueError, "rule"),
    "NoNames": (ValueError, "which"), "NoPicks": (ValueError, ""), "NoRow": (ValueError, ""),
    "NoHand": (IndexError, "hand"), "NoNumber": (IndexError, "number"), "NoRun": (IndexError, "number"),
    "NoStep": (LookupError, "hand"), "NoName": (LookupError, "name"), "TooMany": (OverflowError, "many"),
    "Bare": (RuntimeError, ""),
}


def told_of(file, name):
    return getattr(importlib.import_module("readsfrom." + file), name)


def taken_by(call):
    return str(inspect.signature(call))[1:-1]


class InterfaceTest(unittest.TestCase):
    def test_functions(self):
        for file, functions in FUNCTIONS.items():
            for name, taken in functions.items():
                call = told_of(file, name)
                self.assertEqual((call.__module__, taken_by(call)), ("readsfrom." + file, taken), name)

    def test_classes(self):
        for file, classes in CLASSES.items():
            for name, methods in classes.items():
                kind = told_of(file, name)
                self.assertEqual(kind.__module__, "readsfrom." + file)
                for method, taken in methods.items():
                    self.assertIn(method, vars(kind))
                    self.assertEqual(taken_by(vars(kind)[method]), ("self, " + taken).rstrip(", "), (name, method))
        self.assertIn("__eq__", vars(Graph))

    def test_refusals(self):
        for name, (kind, fields) in REFUSALS.items():
            refusal = told_of("errors", name)
            self.assertEqual(refusal.__bases__, (kind,))
            names = fields.split(", ") if fields else []
            self.assertEqual(vars(refusal(*range(len(names)))), {field: at for at, field in enumerate(names)})

    def test_most_graphs(self):
        most = told_of("goer", "MOST_GRAPHS")
        self.assertEqual((type(most), most), (int, 100000))


class ProgramsTest(unittest.TestCase):
    """Calls of all that takes a program, with what its arguments are called."""

    def setUp(self):
        self.text = SENT.format("plain", "plain")
        program = read(self.text)
        graph = first_graph(program)
        run = run_of(program, graph)
        self.things = {
            "program": program, "graph": graph, "thing": graph, "hand": 1, "run": run, "by": [1, 0], "most": 7,
            "picks": [(0, 1)], "hands": [1, 0], "boxes": ["word", "mark"], "text": shown_graph(program, graph),
        }

    def taking_programs(self):
        for file, functions in FUNCTIONS.items():
            for name, taken in functions.items():
                if taken.startswith("program"):
                    yield told_of(file, name)
        for file, name in (("machine", "Machine"), ("goer", "Goer")):
            yield told_of(file, name)

    def arguments_of(self, call):
        """The arguments, those by place and those by name alone."""
        names = inspect.signature(call).parameters.values()
        things = {**self.things, "alike": True}
        by_place = {one.name: things[one.name] for one in names if one.kind != one.KEYWORD_ONLY}
        return by_place, {one.name: things[one.name] for one in names if one.kind == one.KEYWORD_ONLY}

    def test_by_name_and_by_place(self):
        many = 0
        for call in self.taking_programs():
            by_place, by_name = self.arguments_of(call)
            told = call(*by_place.values(), **by_name)
            everything = {**by_place, **by_name}
            again = call(**{name: everything[name] for name in reversed(everything)})
            if not isinstance(call, type):
                self.assertEqual(told, again, call)
            if by_name:
                with self.assertRaises(TypeError):
                    call(*by_place.values(), *by_name.values())
            many += 1
        self.assertEqual(many, 33)

    def test_what_is_no_program_is_refused_ahead_of_all_else(self):
        for call in self.taking_programs():
            by_place, by_name = self.arguments_of(call)
            for thing, values in NO_PROGRAMS:
                for others in (list(by_place.values())[1:], [None for _ in list(by_place)[1:]]):
                    for named in (by_name, {name: object() for name in by_name}, {}):
                        with self.assertRaises(NoProgram, msg=call) as caught:
                            call(thing, *others, **named)
                        told = caught.exception
                        self.assertEqual((told.part, told.hand, told.number), values)

    def test_nothing_handed_in_is_changed(self):
        for call in self.taking_programs():
            by_place, by_name = self.arguments_of(call)
            kept = copy.deepcopy([by_place, by_name])
            call(*by_place.values(), **by_name)
            self.assertEqual([by_place, by_name], kept, call)

    def test_what_is_told_changes_no_other_answer(self):
        for call in self.taking_programs():
            by_place, by_name = self.arguments_of(call)
            told = call(*by_place.values(), **by_name)
            again = copy.deepcopy(told)
            spoil(told)
            if not isinstance(call, type):
                self.assertEqual(call(*by_place.values(), **by_name), again, call)
        self.assertEqual(self.things["program"], read(self.text))


def spoil(thing):
    """Clear all lists in a thing, however deep."""
    if isinstance(thing, (list, tuple)):
        for part in thing:
            spoil(part)
    if isinstance(thing, list):
        thing.clear()


class PaperOfAllTest(unittest.TestCase):
    def test_a_paper_goes_with_its_program(self):
        program = read(SENT.format("plain", "plain"))
        picks, _, fails = paper_of(program)
        self.assertEqual(picks, [(0, 1), (1, 0)])
        self.assertEqual([fewer for fewer, _ in fails], [[], [(0, 0)], [(0, 1)], [(1, 0)], [(1, 2)]])


if __name__ == "__main__":
    unittest.main()
