"""Alike hands, those with the same deeds, and in how many ways they can be exchanged."""

from itertools import permutations


def alike_in(hands):
    """Tell the lists of alike hands, each hand in one, each rising, sorted."""
    firsts = [hands.index(deeds) for deeds in hands]
    return [[hand for hand, other in enumerate(firsts) if other == first] for first in sorted(set(firsts))]


def exchanges(hands):
    """Tell the orders in which each place has a hand that is alike to the one of this number."""
    orders = [list(order) for order in permutations(range(len(hands)))]
    return [order for order in orders if [hands[hand] for hand in order] == hands]
