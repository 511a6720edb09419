"""Claims: graphs in which some fail, and ledgers of whether any does."""

from readsfrom.errors import NoRun, TooMany
from readsfrom.forms import is_whole, is_worded
from readsfrom.goer import MOST_GRAPHS
from readsfrom.walks import Walk


def failing(program):
    """Tell the first of the least graphs in which a claim fails, None where there is none."""
    if _count_of_holding(program) is not None:
        return None
    return _least_failing(program).graph()


def ledger_of(program):
    """Tell the ledger: a run behind which a claim fails, or how many ended graphs there are, where none does."""
    many = _count_of_holding(program)
    if many is not None:
        return ("holds", many)
    return ("fails", _least_failing(program).run())


def is_ledger(program, thing):
    """Tell whether the thing is a ledger of the program."""
    walk = Walk(program)
    if not is_worded(thing) or len(thing) != 2:
        return False
    if thing[0] == "fails":
        return _fails_behind(walk, thing[1])
    return thing[0] == "holds" and is_whole(thing[1]) and _holds(walk, thing[1])


def _fails_behind(walk, run):
    """Tell whether this is a run behind which a claim fails."""
    try:
        walk.play(run)
    except NoRun:
        return False
    return walk.has_failed()


def _holds(walk, many):
    """Tell whether there are so many ended graphs, and in none a claim fails."""
    while walk.many() <= many and walk.go_within(MOST_GRAPHS):
        if walk.has_failed():
            return False
    return walk.many() == many


def _count_of_holding(program):
    """Tell how many ended graphs there are, None where a claim fails in one."""
    walk = Walk(program)
    while walk.go_within(MOST_GRAPHS):
        if walk.has_failed():
            return None
    return walk.many()


def _least_failing(program):
    """Tell, where there is one, a walk at the first plain run of the fewest steps behind which a claim fails."""
    search = FailingSearch(program)
    many = 0
    while not search.has_found(many):
        many += 1
    return search


class FailingSearch(Walk):
    """A walk that looks for plain runs, of ended graphs or not, behind which a claim fails."""

    def __init__(self, program):
        super().__init__(program)
        self._seen = 0

    def has_found(self, many):
        """Go to the first such run of so many steps; tell whether there is one."""
        self._seen = 0
        return self._has_found_behind(many)

    def _has_found_behind(self, many):
        # Each plain run is of a graph of its own.
        self._seen += 1
        if self._seen > MOST_GRAPHS:
            raise TooMany(MOST_GRAPHS)
        if len(self) == many:
            return self.has_failed()
        for hand, where in self.plain_steps():
            self._do(hand, where)
            if self._has_found_behind(many):
                return True
            self.back()
        return False
