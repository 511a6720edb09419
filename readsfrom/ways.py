"""The ways of hands through their deeds.

A way is a tuple (at, registers, deed): the number of the deed at which the hand stands; its registers, a dict; and this
deed where it makes the hand's next note, None where the hand makes no more: it is through, or failed at a claim. A way
is never changed, and none stands at a skip, or at a claim that holds.
"""

READING = ("read", "change", "swap", "wait", "grab")


def begun(deeds):
    """Tell the way of a hand that did no deed yet."""
    return _way(deeds, 0, {name: 0 for deed in deeds for name in _names_in(deed)})


def gone_on(deeds, way, number):
    """Tell the way behind the next deed; the number is what this reads, None where it reads nothing."""
    at, registers, deed = way
    if number is not None:
        registers = {**registers, deed[1]: number}
    return _way(deeds, at + 1, registers)


def next_deed(way):
    """Tell the deed that makes the hand's next note, None where it makes no more."""
    return way[2]


def state_on(deeds, way):
    """Tell the hand's state: its word, the number of the deed at which it stands, its registers."""
    at, registers, deed = way
    told = [(name, registers[name]) for name in sorted(registers)]
    if at == len(deeds):
        return ("through", at, told)
    return ("failed" if deed is None else "going", at, told)


def is_reading(deed):
    return deed[0] in READING


def box_in(deed):
    """Tell the box of a deed that reads or writes."""
    return deed[1] if deed[0] == "write" else deed[2]


def is_waiting(deed):
    """Tell whether the deed reads just one number."""
    return deed[0] == "wait" or deed[0] == "grab"


def can_read(deed, number):
    """Tell whether the deed does not wait for another number than this."""
    return not is_waiting(deed) or number == deed[3]


def is_changing(deed, number):
    """Tell whether the deed, where it reads this number, writes at once."""
    return deed[0] == "change" or (deed[0] in ("swap", "grab") and number == deed[3])


def note_of(deed, registers, number, source):
    """Tell the note that the deed makes, reading this number of this source (None and None where it reads nothing)."""
    mode = deed[-1]
    if deed[0] == "fence":
        return ("fence", mode)
    box = box_in(deed)
    if deed[0] == "write":
        return ("write", box, mode, _worth(deed[2], registers))
    if is_changing(deed, number):
        return ("change", box, mode, number, _changed(deed, registers, number), source)
    if deed[0] == "swap":
        mode = "taking" if mode in ("taking", "both") else "loose"
    return ("read", box, mode, number, source)


def _names_in(deed):
    """Tell the registers that the deed names, its own and that which stands for a number."""
    own = [] if deed[0] in ("write", "fence") else [deed[1]]
    if deed[0] in ("write", "change", "swap", "grab") and isinstance(deed[-2], str):
        own.append(deed[-2])
    return own


def _way(deeds, at, registers):
    at = _settled(deeds, at, registers)
    return (at, registers, deeds[at] if at < len(deeds) and deeds[at][0] != "claim" else None)


def _settled(deeds, at, registers):
    """Tell at which deed the hand stands once skips and claims from this one on are done."""
    while at < len(deeds) and deeds[at][0] in ("skip", "claim"):
        has_it = registers[deeds[at][1]] == deeds[at][3]
        holds = has_it == (deeds[at][2] == "is")
        if deeds[at][0] == "claim" and not holds:
            return at
        at += 1 + (deeds[at][4] if deeds[at][0] == "skip" and holds else 0)
    return min(at, len(deeds))


def _worth(what, registers):
    return registers[what] if isinstance(what, str) else what


def _changed(deed, registers, number):
    """Tell what a deed that reads this number and writes at once writes."""
    worth = _worth(deed[-2], registers)
    if deed[0] == "change" and deed[3] == "add":
        return (number + worth) % 10
    return worth
