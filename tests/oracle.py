"""The promises about drawings, told a second time: by trying all of them, slowly, and straight by the document."""

from itertools import permutations, product


def writes_of(lines, box, number=None):
    """All notes that write to the box, or that write this number to it."""
    found = []
    for hand, line in enumerate(lines):
        for at, note in enumerate(line):
            if note[0] in ("write", "change") and note[1] == box:
                written = note[3] if note[0] == "write" else note[4]
                if number is None or number == written:
                    found.append((hand, at))
    return found


def lines_of(deeds, numbers, at=0, registers=None):
    """All lines that a hand may do, sources left open as "?", where its reads read these numbers."""
    registers = registers or {}
    yield []
    while at < len(deeds) and deeds[at][0] in ("skip", "claim"):
        word, register, is_it, number, *many = deeds[at]
        has_it = registers.get(register, 0) == number
        if word == "claim" and has_it != (is_it == "is"):
            return
        if word == "skip" and has_it == (is_it == "is"):
            at += many[0]
        at += 1
    if at >= len(deeds):
        return
    for note, after in notes_of(deeds[at], registers, numbers):
        for rest in lines_of(deeds, numbers, at + 1, after):
            yield [note, *rest]


def notes_of(deed, registers, numbers):
    """All notes that a deed may make, each with the registers behind it."""
    word, mode = deed[0], deed[-1]

    def worth(what):
        return registers.get(what, 0) if isinstance(what, str) else what

    if word == "fence":
        yield deed, registers
        return
    if word == "write":
        yield ("write", deed[1], mode, worth(deed[2])), registers
        return
    weak = "taking" if mode in ("taking", "both") else "loose"
    for number in numbers:
        after = dict(registers)
        after[deed[1]] = number
        if word == "read" or (word == "wait" and number == deed[3]):
            yield ("read", deed[2], mode, number, "?"), after
        elif word == "change":
            other = worth(deed[4]) if deed[3] == "put" else (number + worth(deed[4])) % 10
            yield ("change", deed[2], mode, number, other, "?"), after
        elif word in ("swap", "grab") and number == deed[3]:
            yield ("change", deed[2], mode, number, worth(deed[4]), "?"), after
        elif word == "swap":
            yield ("read", deed[2], weak, number, "?"), after


def drawings(program, numbers=(0, 1, 2, 3)):
    """The lines and rows of all drawings, where no other numbers can be read."""
    boxes, hands = program
    for lines in product(*[list(lines_of(deeds, numbers)) for deeds in hands]):
        for sourced in sourced_lines(lines):
            for rows in product(*[permutations(writes_of(lines, box)) for box in boxes]):
                yield sourced, [list(row) for row in rows]


def sourced_lines(lines):
    open_at = [(hand, at) for hand, line in enumerate(lines) for at, note in enumerate(line) if note[-1] == "?"]
    choices = []
    for hand, at in open_at:
        note = lines[hand][at]
        choices.append(([None] if note[3] == 0 else []) + writes_of(lines, note[1], note[3]))
    for sources in product(*choices):
        told = [list(line) for line in lines]
        for (hand, at), source in zip(open_at, sources):
            told[hand][at] = told[hand][at][:-1] + (source,)
        yield told


def closed(pairs):
    """All pairs to which these lead, one behind the other."""
    pairs = set(pairs)
    while True:
        more = {(a, d) for a, b in pairs for c, d in pairs if b == c} - pairs
        if not more:
            return pairs
        pairs |= more


def in_line(lines):
    return {((hand, at - 1), (hand, at)) for hand, line in enumerate(lines) for at in range(1, len(line))}


def source(lines, call):
    note = lines[call[0]][call[1]]
    return note[-1] if note[0] in ("read", "change") else None


def mode(note):
    return note[1] if note[0] == "fence" else note[2]


def meetings(lines):
    """The second kind of steps of 4.1."""
    calls = [(hand, at) for hand, line in enumerate(lines) for at in range(len(line))]
    note = {(hand, at): lines[hand][at] for hand, at in calls}
    told = set()
    for r in calls:
        w, passed = source(lines, r), []
        while w is not None and w not in passed:
            passed.append(w)
            for a, b in product(calls, calls):
                begins = mode(note[a]) in ("giving", "both") and (
                    a == w or (note[a][0] == "fence" and a[0] == w[0] and a[1] < w[1]))
                ends = mode(note[b]) in ("taking", "both") and (
                    b == r or (note[b][0] == "fence" and b[0] == r[0] and b[1] > r[1]))
                if begins and ends:
                    told.add((a, b))
            w = source(lines, w)
    return told


def before(lines):
    return closed(in_line(lines) | meetings(lines))


def broken(lines, rows):
    """All rules that a drawing breaks."""
    calls = [(hand, at) for hand, line in enumerate(lines) for at in range(len(line))]
    place = {call: at + 1 for row in rows for at, call in enumerate(row)}
    place[None] = 0
    note = {(hand, at): lines[hand][at] for hand, at in calls}
    told = []
    reads = {(source(lines, call), call) for call in calls if source(lines, call) is not None}
    if any(a == b for a, b in closed(in_line(lines) | reads)):
        told.append("ring")
    if any(note[a][0] == "change" and place[a] != place[note[a][-1]] + 1 for a in calls):
        told.append("parted")
    for a, b in before(lines):
        if a != b and note[a][0] != "fence" and note[b][0] != "fence" and note[a][1] == note[b][1]:
            ones = [place[a]] if note[a][0] != "read" else []
            ones += [place[note[a][-1]]] if note[a][0] != "write" else []
            if note[b][0] != "write" and any(one > place[note[b][-1]] for one in ones):
                told.append("stale")
            if note[b][0] != "read" and any(one >= place[b] for one in ones):
                told.append("stale")
    return sorted(set(told), key=["ring", "parted", "stale"].index)


def numbers_of(program):
    """Numbers, all that can be read in the program among them."""
    found = {0}
    adds = 0
    for deed in [deed for hand in program[1] for deed in hand]:
        if deed[0] in ("write", "change", "swap", "grab") and isinstance(deed[-2], int):
            found.add(deed[-2])
        adds += deed[0] == "change" and deed[3] == "add"
    for _ in range(adds):
        found |= {(one + other) % 10 for one in found for other in found}
    return sorted(found)
