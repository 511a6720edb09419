"""Graphs: drawings of who reads whom, and in which order writes to a box stand."""


class Graph:
    """A graph: a line of notes for each hand, a row of notes that write for each box. It never changes."""

    def __init__(self, lines, rows):
        self._lines = _copied(lines)
        self._rows = _copied(rows)

    def lines(self):
        return _copied(self._lines)

    def rows(self):
        return _copied(self._rows)

    def __len__(self):
        return len([note for line in self._lines for note in line])

    def __eq__(self, other):
        return isinstance(other, Graph) and self._lines == other._lines and self._rows == other._rows

    def __repr__(self):
        return f"Graph({self._lines!r}, {self._rows!r})"


def _copied(lists):
    # A graph can be made of what makes no drawing; that is kept as it is, so that it can be told of it.
    if not isinstance(lists, list):
        return lists
    return [list(one) if isinstance(one, list) else one for one in lists]
