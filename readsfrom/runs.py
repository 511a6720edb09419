"""Runs and graphs, told of each other."""

from readsfrom.errors import NoHand, NoRun
from readsfrom.forms import is_order
from readsfrom.machine import Machine
from readsfrom.notes import does_read, note_at, source_of
from readsfrom.rules import look_at_graph


def is_run(program, thing):
    """Tell whether the thing is a run of the program."""
    machine = Machine(program)
    try:
        machine.play(thing)
    except NoRun:
        return False
    return True


def graph_of(program, run):
    """Tell the graph of a run; refuse what is none."""
    machine = Machine(program)
    machine.play(run)
    return machine.graph()


def run_of(program, graph, *, by=None):
    """Tell of a graph its plain run, or the run by an order of the hands; refuse what is no graph, or no order."""
    look_at_graph(program, graph)
    boxes, hands = program
    order = list(range(len(hands))) if by is None else by
    if not is_order(order, len(hands)):
        raise NoHand(None)
    return run_by(boxes, graph, order)


def run_by(boxes, graph, order):
    """Tell the run that takes always the first hand of the order that can be next."""
    lines = graph.lines()
    rows = {box: row for box, row in zip(boxes, graph.rows())}
    many = sum([len(line) for line in lines])
    done = {None: True}
    run = []
    ats = [0 for _ in lines]
    while len(run) < many:
        hand = _next_hand(lines, order, ats, done)
        call = (hand, ats[hand])
        run.append((hand, _place(lines, rows, done, call)))
        done[call] = True
        ats[hand] += 1
    return run


def _next_hand(lines, order, ats, done):
    """Tell the first hand of the order the next note of which has its source among those done."""
    return [hand for hand in order if ats[hand] < len(lines[hand]) and source_of(lines[hand][ats[hand]]) in done][0]


def _place(lines, rows, done, call):
    """Tell the place at which the note is done behind those done: of reading where it reads."""
    note = note_at(lines, call)
    if note[0] == "fence":
        return None
    row = [one for one in [None, *rows[note[1]]] if one in done or one == call]
    return row.index(source_of(note) if does_read(note) else call)
