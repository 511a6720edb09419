"""The desk: programs kept by names, asked of in rows of words, and one machine."""

from readsfrom.calls import shown_call
from readsfrom.claims import ledger_of
from readsfrom.clashes import clash_of
from readsfrom.deskrows import read_row
from readsfrom.errors import Bare, NoName, TooMany
from readsfrom.goer import count_of
from readsfrom.graphtexts import shown_graph
from readsfrom.machine import Machine
from readsfrom.programtexts import read, shown
from readsfrom.stronger import by_picks, paper_of
from readsfrom.turns import outcomes, turn_outcomes

MOST_NAMES = 8


def _in_one_row(text):
    return text.replace("\n", "; ")


def _listed(words):
    return " ".join(words) if len(words) > 0 else "-"


def _show(program):
    return _in_one_row(shown(program))


def _count(program):
    return str(count_of(program))


def _outcomes(program):
    return str(len(outcomes(program)))


def _turns(program):
    return str(len(turn_outcomes(program)))


def _clash(program):
    return "no" if clash_of(program) is None else "yes"


def _ledger(program):
    word, told = ledger_of(program)
    many = told if word == "holds" else len(told)
    return f"{word} {many}"


def _picks(program):
    paper = paper_of(program)
    return "none" if paper is None else _listed([shown_call(pick) for pick in paper[0]])


# What is asked of a program that is kept.
ASKED = {
    "show": _show,
    "count": _count,
    "outcomes": _outcomes,
    "turns": _turns,
    "clash": _clash,
    "ledger": _ledger,
    "picks": _picks,
}


def _steps(machine, program):
    return _listed([_shown_step(hand, place) for hand, place in machine.steps()])


def _shown_step(hand, place):
    return f"{hand}.-" if place is None else f"{hand}.{place}"


def _back(machine, program):
    machine.back()
    return "ok"


def _now(machine, program):
    _, hands = program
    return " ".join([machine.state(hand)[0] for hand, _ in enumerate(hands)])


def _drawn(machine, program):
    return _in_one_row(shown_graph(program, machine.graph()))


# What is told to the machine and its program, without more words.
OF_MACHINE = {"steps": _steps, "back": _back, "now": _now, "drawn": _drawn}


class Desk:
    """Keeps programs, and a machine once one is begun."""

    def __init__(self):
        self._programs = {}
        # The machine and its program, once one is begun. No program that is kept ever changes.
        self._begun = None
        self._book = []

    def say(self, row):
        """Tell the answer to a row; refuse what is none, or can't be done."""
        word, *parts = read_row(row)
        if word == "program":
            name, text = parts
            return self._keep(name, read(text.replace("; ", "\n")))
        if word == "names":
            return _listed(sorted(self._programs))
        if word in OF_MACHINE or word in ("step", "play"):
            return self._told_machine(word, parts)
        return self._told_program(word, parts)

    def together(self, rows):
        """Tell the answers to these rows; where one is refused nothing was done."""
        self._book.append("open")
        try:
            return self._answers(rows)
        finally:
            self._book.append("shut")

    def book(self):
        """Tell `open` and `shut` of each telling together."""
        return list(self._book)

    def __len__(self):
        return len(self._programs)

    def _answers(self, rows):
        programs, begun = dict(self._programs), self._begun_twin()
        answers = None
        try:
            answers = [self.say(row) for row in rows]
        finally:
            if answers is None:
                self._programs, self._begun = programs, begun
        return answers

    def _begun_twin(self):
        """Tell the machine that is begun once more, going on by itself, and its program."""
        if self._begun is None:
            return None
        machine, program = self._begun
        return (machine.twin(), program)

    def _keep(self, name, program):
        if name not in self._programs and len(self._programs) == MOST_NAMES:
            raise TooMany(MOST_NAMES)
        self._programs[name] = program
        return "ok"

    def _told_program(self, word, parts):
        """Tell the answer to a row of a program that is kept."""
        name, *rest = parts
        if name not in self._programs:
            raise NoName(name)
        program = self._programs[name]
        if word == "stronger":
            return self._keep(rest[0], by_picks(program, rest[1:]))
        if word == "drop":
            del self._programs[name]
            return "ok"
        if word == "begin":
            self._begun = (Machine(program), program)
            return "ok"
        asked = ASKED[word]
        return asked(program)

    def _told_machine(self, word, parts):
        """Tell the answer to a row of the machine."""
        if self._begun is None:
            raise Bare()
        machine, program = self._begun
        if word == "step":
            hand, place = parts[0]
            machine.step(hand, where=place)
            return "ok"
        if word == "play":
            machine.play(parts)
            return "ok"
        told = OF_MACHINE[word]
        return told(machine, program)
