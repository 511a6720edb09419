"""Programs and drawings with their hands and boxes called otherwise, and hands that are alike."""

from readsfrom.errors import NoNames
from readsfrom.exchanges import alike_in
from readsfrom.forms import is_list, is_name, is_order
from readsfrom.graphs import Graph
from readsfrom.notes import NOTES, does_read, source_of
from readsfrom.programs import DEEDS, look_at


def called(program, *, hands=None, boxes=None):
    """Tell the program with its hands and boxes called so; refuse what are no names of them."""
    order, names = _names_of(program, hands, boxes)
    _, deeds = program
    lines = [[_called(DEEDS[deed[0]], deed, names) for deed in deeds[hand]] for hand in _olds(order)]
    return (sorted(names.values()), lines)


def led(program, graph, *, hands=None, boxes=None):
    """Tell the drawing led along to the program that is called so."""
    order, names = _names_of(program, hands, boxes)
    olds, _ = program
    lines = graph.lines()
    rows = {names[box]: row for box, row in zip(olds, graph.rows())}
    return Graph(
        [[_led_note(note, order, names) for note in lines[hand]] for hand in _olds(order)],
        [[_led_call(call, order) for call in rows[name]] for name in sorted(rows)],
    )


def alike_hands(program):
    """Tell the lists of alike hands, each hand in one, each rising, sorted."""
    look_at(program)
    _, hands = program
    return alike_in(hands)


def _names_of(program, hands, boxes):
    """Tell the new number of each hand and the new name of each box; refuse what are none."""
    look_at(program)
    olds, deeds = program
    if hands is not None and not is_order(hands, len(deeds)):
        raise NoNames("hands")
    if boxes is not None and not _are_names(boxes, len(olds)):
        raise NoNames("boxes")
    order = list(range(len(deeds))) if hands is None else hands
    return (order, {box: name for box, name in zip(olds, olds if boxes is None else boxes)})


def _are_names(thing, many):
    return is_list(thing, many, many) and all([is_name(name) for name in thing]) and len(set(thing)) == many


def _olds(order):
    """Tell, for each hand as it is called now, its old number."""
    return [order.index(hand) for hand, _ in enumerate(order)]


def _called(kinds, parts, names):
    """Tell the deed, or the note, with its box called otherwise; behind its first word are parts of these kinds."""
    if "box" not in kinds:
        return parts
    place = kinds.index("box") + 1
    return parts[:place] + (names[parts[place]],) + parts[place + 1:]


def _led_note(note, order, names):
    note = _called(NOTES[note[0]], note, names)
    return note[:-1] + (_led_call(source_of(note), order),) if does_read(note) else note


def _led_call(call, order):
    return None if call is None else (order[call[0]], call[1])
