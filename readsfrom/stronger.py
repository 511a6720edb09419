"""Deeds made stronger, and papers that tell which few are enough for all claims to hold."""

from itertools import combinations

from readsfrom.claims import is_ledger, ledger_of
from readsfrom.errors import NoPicks, TooMany
from readsfrom.forms import is_pair
from readsfrom.programs import look_at

STRONGEST = {
    "read": "taking",
    "wait": "taking",
    "write": "giving",
    "change": "both",
    "swap": "both",
    "grab": "both",
    "fence": "both",
}
MOST_PICKS = 6


def picks_of(program):
    """Tell all deeds, by (hand, number), that can be made stronger, sorted."""
    look_at(program)
    _, hands = program
    deeds = [((hand, number), deed) for hand, line in enumerate(hands) for number, deed in enumerate(line)]
    return [pick for pick, deed in deeds if _made_strongest(deed) != deed]


def by_picks(program, picks):
    """Tell the program with these deeds made strongest; refuse what is no sorted list of unlike ones."""
    if not _are_picks(program, picks):
        raise NoPicks()
    boxes, hands = program
    return (list(boxes), [_with_picks(hand, deeds, picks) for hand, deeds in enumerate(hands)])


def paper_of(program):
    """Tell the paper of the fewest picks by which all claims hold; None where some fail by all picks, too."""
    could = picks_of(program)
    if len(could) > MOST_PICKS:
        raise TooMany(MOST_PICKS)
    # What holds by some picks holds by all.
    if _ledger_by(program, could)[0] == "fails":
        return None
    fails = []
    for picks in _choices(could, len(could)):
        word, told = _ledger_by(program, picks)
        if word == "holds":
            return (picks, told, [(fewer, run) for fewer, run in fails if len(fewer) < len(picks)])
        fails.append((picks, told))
    return None


def is_paper(program, thing):
    """Tell whether the thing is a paper of picks."""
    could = picks_of(program)
    if len(could) > MOST_PICKS or not isinstance(thing, tuple) or len(thing) != 3:
        return False
    picks, many, fails = thing
    if not _are_picks(program, picks) or not isinstance(fails, list):
        return False
    fewer = [choice for choice in _choices(could, len(picks)) if len(choice) < len(picks)]
    if len(fails) != len(fewer) or not all([_fails_by(program, choice, row) for choice, row in zip(fewer, fails)]):
        return False
    return is_ledger(by_picks(program, picks), ("holds", many))


def _made_strongest(deed):
    return deed[:-1] + (STRONGEST[deed[0]],) if deed[0] in STRONGEST else deed


def _with_picks(hand, deeds, picks):
    return [_made_strongest(deed) if (hand, number) in picks else deed for number, deed in enumerate(deeds)]


def _are_picks(program, thing):
    """Tell whether the thing is a sorted list of unlike deeds that can be made stronger."""
    could = picks_of(program)
    if not isinstance(thing, list) or not all([is_pair(pick) for pick in thing]):
        return False
    return all([pick in could for pick in thing]) and thing == sorted(set(thing))


def _choices(could, most):
    """Tell all choices of at most so many of these, by how many, those of as many sorted."""
    return [list(choice) for many in range(most + 1) for choice in combinations(could, many)]


def _ledger_by(program, picks):
    return ledger_of(by_picks(program, picks))


def _fails_by(program, choice, row):
    """Tell whether the row is one of this choice, with a run behind which a claim fails."""
    if not isinstance(row, tuple) or len(row) != 2 or not _are_picks(program, row[0]) or row[0] != choice:
        return False
    return is_ledger(by_picks(program, choice), ("fails", row[1]))
