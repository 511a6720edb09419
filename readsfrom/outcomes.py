"""Whether graphs are ended or full, and what came of them."""

from readsfrom.machine import Machine
from readsfrom.notes import note_at, number_written
from readsfrom.programs import look_at
from readsfrom.replaying import state_of
from readsfrom.rules import breach
from readsfrom.runs import run_of


def is_ended(program, graph):
    """Tell whether the machine is over behind the graph's run."""
    # A drawing that breaks a rule has no run, so none behind which the machine is over.
    if breach(program, graph) is not None:
        return False
    machine = Machine(program)
    machine.play(run_of(program, graph))
    return machine.is_over()


def is_full(program, graph):
    """Tell whether each hand is through or failed."""
    return all([word in ("through", "failed") for word, _, _ in _states(program, graph)])


def outcome_of(program, graph):
    """Tell the words, the registers and the last numbers of an ended graph."""
    states = _states(program, graph)
    return outcome_by(states, last_numbers(graph))


def last_numbers(graph):
    """Tell for each box the last number of its row, 0 of none."""
    lines = graph.lines()
    return [number_written(note_at(lines, row[-1])) if len(row) > 0 else 0 for row in graph.rows()]


def outcome_by(states, numbers):
    """Tell the outcome where nothing can go on, by the states of the hands and the last numbers of the boxes."""
    words = ["stuck" if word == "going" else word for word, _, _ in states]
    return (words, [told for _, _, told in states], numbers)


def _states(program, graph):
    look_at(program)
    _, hands = program
    return [state_of(program, graph, hand) for hand, _ in enumerate(hands)]
