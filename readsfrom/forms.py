"""The forms of things: what is a name, a number, a list of so many, a tuple of such parts."""

LETTERS = "abcdefghijklmnopqrstuvwxyz"
NAME_LETTERS = 6


def is_name(thing):
    if not isinstance(thing, str) or not 1 <= len(thing) <= NAME_LETTERS:
        return False
    return all([sign in LETTERS for sign in thing])


def is_whole(thing):
    """Tell whether the thing is a whole number: True and False are ints, but none of these."""
    return isinstance(thing, int) and not isinstance(thing, bool)


def is_from_to(thing, least, most):
    return is_whole(thing) and least <= thing <= most


def is_list(thing, least, most):
    return isinstance(thing, list) and least <= len(thing) <= most


def is_pair(thing):
    """Tell whether the thing is a tuple (hand, number), both whole numbers."""
    return isinstance(thing, tuple) and len(thing) == 2 and is_whole(thing[0]) and is_whole(thing[1])


def is_order(thing, many):
    """Tell whether the thing is a list of the numbers of so many hands, each once."""
    return is_list(thing, many, many) and all([is_whole(hand) for hand in thing]) and sorted(thing) == list(range(many))


def is_worded(thing):
    """Tell whether the thing is a tuple with a text ahead."""
    return isinstance(thing, tuple) and len(thing) > 0 and isinstance(thing[0], str)


def has_parts(boxes, kinds, thing):
    """Tell whether the tuple has, behind its first word, parts of just these kinds; kinds None are none's."""
    if kinds is None or len(thing) != 1 + len(kinds):
        return False
    return all([_is_of(boxes, kind, part) for kind, part in zip(kinds, thing[1:])])


def _is_of(boxes, kind, part):
    # The kind of a part comes ahead of comparing: any thing may stand here, and be "equal" to a word.
    if isinstance(kind, tuple):
        return isinstance(part, str) and part in kind
    if kind == "name":
        return is_name(part)
    if kind == "box":
        return isinstance(part, str) and part in boxes
    if kind == "number":
        return is_from_to(part, 0, 9)
    if kind == "many":
        return is_from_to(part, 1, 8)
    if kind == "source":
        return part is None or is_pair(part)
    return is_name(part) or is_from_to(part, 0, 9)
