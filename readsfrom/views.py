"""Views: tuples with, for each box, the message in its row up to which is seen. They are never changed."""


def moved(view, box, message):
    """Tell the view with this message of the box."""
    return view[:box] + (message,) + view[box + 1:]


def joined(rows, view, other):
    """Tell the view that has, box by box, what stands further in its row."""
    return tuple([_further(row, one, two) for row, one, two in zip(rows, view, other)])


def _further(row, one, other):
    return one if row.index(one) >= row.index(other) else other
