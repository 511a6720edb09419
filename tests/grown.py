"""Graphs grown note by note by the three rules alone, and runs of hands that take turns: told slowly, a second time."""

from tests import oracle


def stand_of(deeds, line):
    """The number of the deed at which a hand with this line stands, whether it failed, and its registers."""
    names = [deed[1] for deed in deeds if deed[0] not in ("write", "fence")]
    names += [deed[-2] for deed in deeds if deed[0] in ("write", "change", "swap", "grab") and isinstance(deed[-2], str)]
    registers = {name: 0 for name in sorted(set(names))}
    at, left = 0, list(line)
    while at < len(deeds):
        deed = deeds[at]
        if deed[0] in ("skip", "claim"):
            has_it = registers[deed[1]] == deed[3]
            if deed[0] == "claim" and has_it != (deed[2] == "is"):
                return at, True, registers
            if deed[0] == "skip" and has_it == (deed[2] == "is"):
                at += deed[4]
        elif not left:
            return at, False, registers
        else:
            note = left.pop(0)
            if note[0] in ("read", "change"):
                registers[deed[1]] = note[3]
        at += 1
    return min(at, len(deeds)), False, registers


def longer(program, lines, rows):
    """All (lines, rows) that have one note more and break no rule."""
    boxes, hands = program
    for hand, deeds in enumerate(hands):
        at, has_failed, registers = stand_of(deeds, lines[hand])
        if at == len(deeds) or has_failed:
            continue
        for note, _ in oracle.notes_of(deeds[at], registers, range(10)):
            for sourced in sourced_notes(lines, note):
                grown = [line + [sourced] if number == hand else line for number, line in enumerate(lines)]
                for placed in placed_rows(boxes, rows, sourced, (hand, len(lines[hand]))):
                    if not oracle.broken(grown, placed):
                        yield grown, placed


def sourced_notes(lines, note):
    if note[-1] != "?":
        return [note]
    sources = ([None] if note[3] == 0 else []) + oracle.writes_of(lines, note[1], note[3])
    return [note[:-1] + (source,) for source in sources]


def placed_rows(boxes, rows, note, call):
    if note[0] not in ("write", "change"):
        return [rows]
    at = boxes.index(note[1])
    row = rows[at]
    return [rows[:at] + [row[:place] + [call] + row[place:]] + rows[at + 1:] for place in range(len(row) + 1)]


def reached(program, behind):
    """All (lines, rows) that are reached by going on, and those of them that can't go on, by their repr."""
    boxes, hands = program
    waiting = [([[] for _ in hands], [[] for _ in boxes])]
    told, ended = {}, {}
    while waiting:
        lines, rows = waiting.pop()
        key = repr((lines, rows))
        if key not in told:
            told[key] = (lines, rows)
            more = list(behind(program, lines, rows))
            waiting.extend(more)
            if not more:
                ended[key] = (lines, rows)
    return told, ended


def all_grown(program):
    """All (lines, rows) that break no rule, and those of them that can't be grown, both in the order of their runs."""
    told, ended = reached(program, longer)
    return in_order(program[0], told.values()), in_order(program[0], ended.values())


def all_turned(program):
    """The (lines, rows) of all runs that take turns, and those of them that can't go on so, by their repr."""
    return reached(program, turned)


def in_order(boxes, graphs):
    return sorted(graphs, key=lambda graph: key_of(plain_run(boxes, *graph)))


def key_of(run):
    """A run as a list that can be compared: None counts ahead of each number."""
    return [(hand, -1 if place is None else place) for hand, place in run]


def plain_run(boxes, lines, rows):
    run, done = [], []
    while len(done) < sum(len(line) for line in lines):
        for hand, line in enumerate(lines):
            call = (hand, len([one for one in done if one[0] == hand]))
            if call[1] < len(line) and oracle.source(lines, call) in [None, *done]:
                break
        done.append(call)
        note = line[call[1]]
        place = None
        if note[0] != "fence":
            row = [one for one in rows[boxes.index(note[1])] if one in done]
            place = row.index(call) + 1 if note[0] == "write" else 0 if note[-1] is None else row.index(note[-1]) + 1
        run.append((hand, place))
    return run


def exchanged(lines, rows, order):
    """The graph in which hand h is called order[h]."""
    led = [[] for _ in lines]
    for hand, line in enumerate(lines):
        for note in line:
            if note[0] in ("read", "change") and note[-1] is not None:
                note = note[:-1] + ((order[note[-1][0]], note[-1][1]),)
            led[order[hand]].append(note)
    return led, [[(order[hand], number) for hand, number in row] for row in rows]


def words_of(program, lines):
    words = []
    for deeds, line in zip(program[1], lines):
        at, has_failed, _ = stand_of(deeds, line)
        words.append("failed" if has_failed else "through" if at == len(deeds) else "stuck")
    return words


def outcome(program, lines, rows):
    registers = [sorted(stand_of(deeds, line)[2].items()) for deeds, line in zip(program[1], lines)]
    numbers = []
    for row in rows:
        note = lines[row[-1][0]][row[-1][1]] if row else ("write", "x", "plain", 0)
        numbers.append(note[4] if note[0] == "change" else note[3])
    return words_of(program, lines), registers, numbers


def unlike(outcomes):
    """These outcomes, sorted and each once."""
    return sorted({repr(one): one for one in outcomes}.values())


def turned(program, lines, rows):
    """All (lines, rows) that have one note more, of a hand that takes its turn."""
    for grown, placed in longer(program, lines, rows):
        hand = [number for number, line in enumerate(grown) if len(line) > len(lines[number])][0]
        note = grown[hand][-1]
        row = [] if note[0] == "fence" else rows[program[0].index(note[1])]
        last = row[-1] if row else None
        if note[0] == "fence" or (note[0] in ("read", "change") and note[-1] == last):
            yield grown, placed
        elif note[0] == "write" and placed[program[0].index(note[1])][-1] == (hand, len(lines[hand])):
            yield grown, placed


def clashes(lines):
    """All pairs of notes that clash, the lesser first, sorted."""
    led = oracle.before(lines)
    told = []
    for one, other in sorted((a, b) for a in calls(lines) for b in calls(lines) if a < b and a[0] != b[0]):
        notes = [lines[one[0]][one[1]], lines[other[0]][other[1]]]
        if "fence" in (notes[0][0], notes[1][0]) or notes[0][1] != notes[1][1]:
            continue
        if (notes[0][0], notes[1][0]) != ("read", "read") and (one, other) not in led and (other, one) not in led:
            told.append((one, other))
    return told


def calls(lines):
    return [(hand, number) for hand, line in enumerate(lines) for number in range(len(line))]
