"""Mixtures: a valley that took each of its customs from one of two places of a tree for the others."""

from oncefound.changing import picked
from oncefound.errors import NoFit, TooMany
from oncefound.fillings import customs_by_place, filling, is_filling
from oncefound.grown import all_grown
from oncefound.pieces import fits
from oncefound.tables import Table, check_full, check_valley
from oncefound.trees import Tree, tree_of
from oncefound.values import is_between

MOST_MIXED = 6


def _check_full_and_valley(table, valley):
    """BadTable, Unread or BadValley."""
    check_full(table)
    check_valley(table, valley)


def _others(table, valley):
    """The table of all other valleys, of which there are some."""
    return picked(table, tuple([other for other in range(len(table.rows)) if other != valley]))


def is_mixture(table, valley, thing):
    """Whether thing, any value, is a mixture of valley."""
    _check_full_and_valley(table, valley)
    if len(table.rows) == 1 or not isinstance(thing, tuple) or len(thing) != 4:
        return False
    tree, rows, one, other = thing
    others = _others(table, valley)
    if not isinstance(tree, Tree) or len(tree.seats) != len(others.rows) or not is_filling(tree, others, rows):
        return False
    if not all([is_between(place, 0, len(tree.ties)) for place in (one, other)]):
        return False
    return all([cell in (near, far) for cell, near, far in zip(table.rows[valley], rows[one], rows[other])])


def mixture(table, valley):
    """A mixture of valley; None if there is none."""
    _check_full_and_valley(table, valley)
    if len(table.rows) == 1:
        return None
    if len(table.rows) > MOST_MIXED:
        raise TooMany(MOST_MIXED)
    others = _others(table, valley)
    # A tree that is finer can have what a tree has, so that grown trees alone tell all.
    trees = [tree for tree in all_grown(tree_of(len(others.rows), ())) if fits(tree, others)]
    if len(trees) == 0:
        raise NoFit("no tree fits the others")
    for tree in trees:
        found = _mixture_at(tree, others, table.rows[valley])
        if found is not None:
            return found
    return None


def _mixture_at(tree, others, row):
    """A mixture with this tree, which fits the others, for a valley with this row; None if there is none."""
    columns = [customs_by_place(tree, others, matter) for matter in range(len(row))]
    places = range(len(tree.ties) + 1)
    taken = [[cell in column[place] for cell, column in zip(row, columns)] for place in places]
    for one in places:
        for other in places:
            if all([near or far for near, far in zip(taken[one], taken[other])]):
                return (tree, _filling_with(tree, others, row, taken[one], one, other), one, other)
    return None


def _filling_with(tree, others, row, taken, one, other):
    """A filling in which place one has the customs of row that are taken, and place other the rest."""
    near = tuple([cell if is_taken else None for cell, is_taken in zip(row, taken)])
    far = tuple([None if is_taken else cell for cell, is_taken in zip(row, taken)])
    # Two valleys more, with these cells, hold the customs where they are wanted.
    return filling(Tree(tree.ties, tree.seats + (one, other)), Table(others.kinds, others.rows + (near, far)))
