"""Drawings written as texts, and such texts read."""

from readsfrom.calls import read_call, read_figure, shown_call
from readsfrom.errors import NoText
from readsfrom.graphs import Graph
from readsfrom.notes import NOTES, is_note
from readsfrom.programs import HAND_DEEDS, look_at
from readsfrom.programtexts import FIGURES
from readsfrom.replaying import is_drawing


def shown_graph(program, graph):
    """Tell the text of a drawing."""
    look_at(program)
    boxes, _ = program
    told = []
    for line in graph.lines():
        told.append("hand")
        told.extend([_shown_note(note) for note in line])
    for box, row in zip(boxes, graph.rows()):
        told.append(" ".join(["row", box] + [shown_call(call) for call in row]))
    return "\n".join(told)


def read_graph(program, text):
    """Tell the drawing of a text; refuse all else, by its first row that can't stand."""
    look_at(program)
    if not isinstance(text, str):
        raise NoText(0)
    boxes, hands = program
    lines, rows = [], []
    told = text.split("\n")
    for number, row in enumerate(told):
        if not _took_row(boxes, len(hands), lines, rows, row):
            raise NoText(number)
    if len(rows) < len(boxes):
        raise NoText(len(told))
    graph = Graph(lines, rows)
    if not is_drawing(program, graph):
        raise NoText(None)
    return graph


def _shown_note(note):
    return " ".join([_shown_part(part) for part in note])


def _shown_part(part):
    if part is None:
        return "start"
    if isinstance(part, tuple):
        return shown_call(part)
    return part if isinstance(part, str) else FIGURES[part]


def _took_row(boxes, hands, lines, rows, row):
    """Put into the lines, or the rows, what the row writes, where it can stand behind them; tell whether it can."""
    if row == "hand" and len(lines) < hands:
        lines.append([])
        return True
    words = row.split(" ")
    if words[0] == "row":
        return len(lines) == hands and len(rows) < len(boxes) and _took_calls(boxes[len(rows)], hands, rows, words)
    note = _read_note(boxes, hands, words)
    if note is None or len(lines) == 0 or len(rows) > 0 or len(lines[-1]) == HAND_DEEDS:
        return False
    lines[-1].append(note)
    return True


def _took_calls(box, hands, rows, words):
    """Put into the rows that of this box, where the words write it; tell whether they do."""
    calls = [read_call(word, hands) for word in words[2:]]
    if words[1:2] != [box] or None in calls:
        return False
    rows.append(calls)
    return True


def _read_note(boxes, hands, words):
    """Tell the note that the words write, None where they write none."""
    kinds = NOTES.get(words[0])
    if kinds is None or len(words) != 1 + len(kinds):
        return None
    note = tuple([words[0]] + [_read_part(hands, kind, word) for kind, word in zip(kinds, words[1:])])
    return note if is_note(boxes, note) else None


def _read_part(hands, kind, word):
    """Tell the part of this kind that the word writes; the word itself where it writes none."""
    if kind == "source":
        call = read_call(word, hands)
        return call if call is not None or word == "start" else word
    figure = read_figure(word, len(FIGURES))
    return word if figure is None else figure
