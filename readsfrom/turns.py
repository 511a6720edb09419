"""The outcomes of all ended graphs, and those of runs that take turns."""

from readsfrom.errors import TooMany
from readsfrom.goer import MOST_GRAPHS
from readsfrom.outcomes import last_numbers, outcome_by
from readsfrom.programs import look_at
from readsfrom.turning import first_stand, key_of, states_at, turn_of
from readsfrom.walks import Walk


def outcomes(program):
    """Tell the outcomes of all ended graphs, sorted, each once."""
    walk = Walk(program)
    _, hands = program
    found = {}
    while walk.go_within(MOST_GRAPHS):
        states = [walk.state(hand) for hand, _ in enumerate(hands)]
        _keep(found, outcome_by(states, last_numbers(walk.graph())))
    return sorted(found.values())


def turn_outcomes(program):
    """Tell the outcomes of the runs that take turns and can't go on so, sorted, each once."""
    look_at(program)
    seen = {}
    found = {}
    waiting = [first_stand(program)]
    while len(waiting) > 0:
        stand = waiting.pop()
        key = key_of(program, stand)
        if key not in seen:
            seen[key] = True
            behind = _stands_behind(program, stand)
            waiting.extend(behind)
            if len(behind) == 0:
                _, numbers = stand
                _keep(found, outcome_by(states_at(program, stand), list(numbers)))
        # Each stand is that of some graph.
        if len(seen) > MOST_GRAPHS:
            raise TooMany(MOST_GRAPHS)
    return sorted(found.values())


def _stands_behind(program, stand):
    """Tell the stands behind one turn."""
    _, hands = program
    turns = [turn_of(program, stand, hand) for hand, _ in enumerate(hands)]
    return [turn[1] for turn in turns if turn is not None]


def _keep(found, outcome):
    words, registers, numbers = outcome
    found[(tuple(words), tuple([tuple(told) for told in registers]), tuple(numbers))] = outcome
