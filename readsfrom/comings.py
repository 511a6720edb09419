"""What may come to boxes: a whole number, with a bit for each box and each number that may be written to it."""

from readsfrom.ways import box_in, is_waiting

NUMBERS = 10
ALL_NUMBERS = 1023


def may_come(boxes, deeds):
    """Tell for each deed, and behind the last, what the deeds from there on may write."""
    told = [0]
    for deed in reversed(deeds):
        told.append(told[-1] | _written(boxes, deed))
    return list(reversed(told))


def of_box(boxes, box):
    """Tell all that may come to the box."""
    return ALL_NUMBERS << boxes.index(box) * NUMBERS


def wished(boxes, deed):
    """Tell all that a deed that reads may read."""
    if is_waiting(deed):
        return _of_number(boxes, box_in(deed), deed[3])
    return of_box(boxes, box_in(deed))


def _of_number(boxes, box, number):
    return 1 << boxes.index(box) * NUMBERS + number


def _written(boxes, deed):
    """Tell all that the deed may write."""
    if deed[0] not in ("write", "change", "swap", "grab"):
        return 0
    what = deed[-2]
    if isinstance(what, str) or (deed[0] == "change" and deed[3] == "add"):
        return of_box(boxes, box_in(deed))
    return _of_number(boxes, box_in(deed), what)
