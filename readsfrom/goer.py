"""Going through the ended graphs of a program, in the order of their plain runs, one at a time."""

from readsfrom.errors import NoGraph, NoNumber
from readsfrom.exchanges import exchanges
from readsfrom.forms import is_from_to
from readsfrom.runs import run_by, run_of
from readsfrom.walks import Walk

MOST_GRAPHS = 100000


def first_graph(program):
    """Tell the first ended graph."""
    walk = Walk(program)
    walk.go_on()
    return walk.graph()


def next_graph(program, graph):
    """Tell the ended graph behind this one, None behind the last; refuse what is no ended graph."""
    run = run_of(program, graph)
    walk = Walk(program)
    walk.go_to(run)
    if not walk.is_over():
        raise NoGraph("going")
    return walk.graph() if walk.go_on() else None


def count_of(program, *, most=MOST_GRAPHS):
    """Tell how many ended graphs there are; refuse where they are more than most."""
    walk = Walk(program)
    if not is_from_to(most, 1, MOST_GRAPHS):
        raise NoNumber(most)
    while walk.go_within(most):
        pass
    return walk.many()


class Goer:
    """Goes through the ended graphs; of those that come of one by exchanging alike hands, only the first if asked."""

    def __init__(self, program, *, alike=False):
        self._walk = Walk(program)
        boxes, hands = program
        self._boxes = list(boxes)
        self._orders = exchanges(hands) if alike else []
        self._told = 0

    def go(self):
        """Tell the next ended graph, None behind the last."""
        while self._walk.go_on():
            graph = self._walk.graph()
            if self._is_first(graph):
                self._told += 1
                return graph
        return None

    def told(self):
        """Tell how many graphs were told."""
        return self._told

    def held(self):
        """Tell how many steps are held."""
        return len(self._walk)

    def _is_first(self, graph):
        """Tell whether no graph that comes of this one by exchanging alike hands stands ahead of it."""
        run = self._walk.run()
        for order in self._orders:
            # A run by this order is plain where the order's first hand is called 0, its second one 1, and so on.
            steps = run_by(self._boxes, graph, order)
            if [(order.index(hand), place) for hand, place in steps] < run:
                return False
        return True
