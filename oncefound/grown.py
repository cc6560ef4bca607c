"""Free partings of a tree, and the grown trees, which have none, that are finer than it."""

from itertools import combinations

from oncefound.errors import TooMany
from oncefound.trees import check_tree, do_cross, partings, tree_of
from oncefound.values import number_of

MOST_GROWN = 105


def partings_free(tree):
    """The ascending tuple of the partings that tree could have, too: they cross none of its own."""
    lots = partings(tree)
    known = {lot: True for lot in lots}
    own = [number_of(lot) for lot in lots]
    valleys = list(range(1, len(tree.seats)))
    every = [lot for size in range(1, len(tree.seats)) for lot in combinations(valleys, size)]
    return tuple(sorted([lot for lot in every if lot not in known and is_clear(number_of(lot), own)]))


def is_clear(lot, others):
    """Whether a parting crosses none of these, all of them told as numbers with a bit for each valley."""
    for other in others:
        if lot & other not in (0, lot, other):
            return False
    return True


def is_grown(tree):
    """Whether no parting is free in tree."""
    check_tree(tree)
    return len(tree.ties) == _most_ties(len(tree.seats))


def _most_ties(many):
    """How many ties a grown tree of so many valleys has."""
    return max(0, 2 * many - 3)


def grown(tree):
    """A normal grown tree that is finer than tree."""
    lots = list(partings(tree))
    taken = [number_of(lot) for lot in lots]
    for lot in partings_free(tree):
        if is_clear(number_of(lot), taken):
            lots.append(lot)
            taken.append(number_of(lot))
    return tree_of(len(tree.seats), tuple(sorted(lots)))


def grown_many(tree):
    """How many normal grown trees are finer than tree."""
    check_tree(tree)
    many = 1
    for place in range(len(tree.ties) + 1):
        around = len([tie for tie in tree.ties if place in tie]) + tree.seats.count(place)
        for odd in range(1, 2 * around - 4, 2):
            many = many * odd
    return many


def all_grown(tree):
    """The list of all normal grown trees that are finer than tree, ascending by their partings."""
    if grown_many(tree) > MOST_GROWN:
        raise TooMany(MOST_GROWN)
    # What crosses no other free parting is in each grown tree: it leaves no choice.
    free = partings_free(tree)
    needed = [lot for lot in free if not _crosses_any(lot, free)]
    found = [partings(tree) + tuple(needed)]
    for lot in free:
        if lot not in needed:
            found = found + [lots + (lot,) for lots in found if not _crosses_any(lot, lots)]
    many = len(tree.seats)
    full = sorted([tuple(sorted(lots)) for lots in found if len(lots) == _most_ties(many)])
    return [tree_of(many, lots) for lots in full]


def _crosses_any(lot, others):
    return any([do_cross(lot, other) for other in others])
